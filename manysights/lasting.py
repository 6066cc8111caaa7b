"""Customs that deeds keep up in every standing."""

from manysights.before import check_listed
from manysights.customs import custom_nodes
from manysights.forms import eyes_node
from manysights.joining import joined_sights, standing_of
from manysights.ledeyes import Leader, check_plain_deeds
from manysights.under import derivation_under


def check_customs(customs, deeds):
    """Raise NotPlain if a view in the customs or one of the deeds is not plain."""
    check_plain_deeds(deeds, [view for view, _ in customs])


def named_nodes(customs):
    """Return nodes that have the names in the customs, in their order."""
    found = []
    for view, party in customs:
        found.append(view.node)
        found.append(eyes_node(party))
    return found


def led_custom(leader, deed, custom):
    """Return nodes of what tell before the deed what the two sides of a custom tell after it."""
    view, party = custom
    eyes = leader.eyes_after((deed.node,))
    shortener = leader.shortener
    return (shortener.node_of(shortener.shortest_of(view.node, eyes)), shortener.node_of(eyes[party]))


def breaking_standing(customs, deed, custom, *, parties):
    """Return a standing in which the deed breaks the custom, although it keeps the customs, or None."""
    check_customs([*customs, custom], (deed,))
    check_listed(named_nodes(customs) + [deed.node] + named_nodes((custom,)), parties)
    rows = custom_nodes(customs)
    told, eyes = led_custom(Leader(parties), deed, custom)
    if derivation_under(rows, told, eyes) is not None:
        return None
    return standing_of(joined_sights(parties, rows, told), ())


class Lasting:
    """Which customs last, and when the others fall."""

    def __init__(self, kept, falls):
        self.kept = kept
        self.falls = falls


def first_breaker(rows, sides):
    """Return the index of the first pair of sides that is not told under the customs, or None."""
    for index, (told, eyes) in enumerate(sides):
        if derivation_under(rows, told, eyes) is None:
            return index
    return None


def lasting(customs, deeds, *, parties):
    """Return which customs last under the deeds, and when and by which deed the others fall."""
    check_customs(customs, deeds)
    check_listed(named_nodes(customs) + [deed.node for deed in deeds], parties)
    leader = Leader(parties)
    sides = [[led_custom(leader, deed, custom) for deed in deeds] for custom in customs]
    rows = custom_nodes(customs)
    kept, falls = list(range(len(rows))), []
    count, fallen = 0, True
    while fallen:
        count += 1
        under = [rows[index] for index in kept]
        breakers = [(index, first_breaker(under, sides[index])) for index in kept]
        fallen = [(count, index, deed) for index, deed in breakers if deed is not None]
        kept = [index for index, deed in breakers if deed is None]
        falls.extend(fallen)
    return Lasting(tuple(kept), tuple(falls))
