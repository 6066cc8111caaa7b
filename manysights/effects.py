"""Questions about what a deed does to a standing."""

from manysights.chains import tells
from manysights.doing import after_node, after_singles, singles_of
from manysights.errors import NotPossible
from manysights.naming import check_names


def sights_around(standing, deed):
    """Return the party and its sights before and after the deed, of the deals open after it."""
    check_names(standing, (deed.node,))
    end = after_node(standing, deed.node)
    start = standing.only(end.deals)
    return [(name, start.sight(name), end.sight(name)) for name in standing.parties]


def learners(standing, deed):
    """Return the parties that tell deals apart after the deed, but not before it."""
    return tuple([name for name, old, new in sights_around(standing, deed) if not tells(old, new)])


def losers(standing, deed):
    """Return the parties that tell deals apart before the deed, but not after it."""
    return tuple([name for name, old, new in sights_around(standing, deed) if not tells(new, old)])


def is_idle(standing, deed):
    """Tell whether the deed changes nothing."""
    check_names(standing, (deed.node,))
    return after_node(standing, deed.node) == standing


def same_effect(standing, one, two):
    """Tell whether both deeds can be done at the same deals and lead to the same standing."""
    check_names(standing, (one.node, two.node))
    left, _ = after_singles(standing, singles_of((one.node,)))
    right, _ = after_singles(standing, singles_of((two.node,)))
    return left == right


def needed_deeds(standing, deeds):
    """Return the indexes of the deeds that are not idle when they are done in order."""
    check_names(standing, [deed.node for deed in deeds])
    found = []
    for index, deed in enumerate(deeds):
        end, _ = after_singles(standing, singles_of((deed.node,)))
        if end is None:
            raise NotPossible(index)
        if end != standing:
            found.append(index)
        standing = end
    return tuple(found)
