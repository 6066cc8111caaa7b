"""Which plain views tell others in every standing."""

from manysights.deriving import AlwaysSearch, is_right
from manysights.joining import all_parties, joined_sights, standing_of
from manysights.plains import Plains, check_plain, plain_sight


def is_derivation(one, two, value):
    """Tell whether the value is a derivation that `one` always tells `two`."""
    check_plain((one, two))
    return is_right((), one.node, two.node, value)


class Telling:
    """Whether one view tells another one, with a derivation or with what parts them."""

    def __init__(self, derivation, standing, pair):
        self.tells = derivation is not None
        self.derivation = derivation
        self.standing = standing
        self.pair = pair


def always_derivation(one, two):
    """Return a derivation that `one` always tells `two`, or None; both are nodes."""
    plains = Plains()
    left, right = plains.number_of(one), plains.number_of(two)
    return AlwaysSearch(plains).look(left, right, 0)


def always_tells(one, two):
    """Return whether `one` always tells `two`, with what shows it."""
    check_plain((one, two))
    derivation = always_derivation(one.node, two.node)
    if derivation is not None:
        return Telling(derivation, None, None)
    names = all_parties((one.node, two.node), ())
    return Telling(None, standing_of(joined_sights(names, (), one.node), ()), (0, 1))


def parts_views(one, two, standing, pair):
    """Tell whether the pair is alike in `one` but not in `two` in the standing."""
    check_plain((one, two))
    for name in all_parties((one.node, two.node), ()):
        if name not in standing.parties:
            return False
    deal, other = pair
    if deal not in standing or other not in standing:
        return False
    sights = {name: standing.sight(name) for name in standing.parties}
    place, second = standing.position(deal), standing.position(other)
    alike = plain_sight(one.node, sights).alike(place, second)
    return alike and not plain_sight(two.node, sights).alike(place, second)


def always_alike(one, two):
    """Tell whether each of the views always tells the other one."""
    check_plain((one, two))
    there = always_derivation(one.node, two.node)
    return there is not None and always_derivation(two.node, one.node) is not None
