"""What plain views tell in every standing that keeps certain customs."""

from manysights.chains import tells
from manysights.deriving import is_right
from manysights.joining import all_parties, joined_sights, standing_of
from manysights.meanings import meaning_of
from manysights.naming import check_names, check_party
from manysights.orders import Telling
from manysights.plains import check_plain
from manysights.under import derivation_under


def custom_nodes(customs):
    """Return the customs with the nodes of their views."""
    return [(view.node, party) for view, party in customs]


def check_all_plain(customs, views):
    """Raise NotPlain if a view of the customs or one of the views is not plain."""
    check_plain([view for view, _ in customs])
    check_plain(views)


def keeps_customs(standing, customs):
    """Tell whether the standing keeps all customs."""
    check_all_plain(customs, ())
    for view, party in customs:
        check_names(standing, (view.node,))
        check_party(standing, party)
    return all([tells(meaning_of(standing, view.node), standing.sight(party)) for view, party in customs])


def is_derivation_under(customs, one, two, value):
    """Tell whether the value is a derivation under the customs that `one` tells `two`."""
    check_all_plain(customs, (one, two))
    return is_right(custom_nodes(customs), one.node, two.node, value)


def tells_under(customs, one, two):
    """Return whether `one` tells `two` under the customs, with what shows it."""
    check_all_plain(customs, (one, two))
    rows = custom_nodes(customs)
    derivation = derivation_under(rows, one.node, two.node)
    if derivation is not None:
        return Telling(derivation, None, None)
    names = all_parties((one.node, two.node), rows)
    return Telling(None, standing_of(joined_sights(names, rows, one.node), ()), (0, 1))


def same_under(customs, one, two):
    """Tell whether each of the views tells the other one under the customs."""
    check_all_plain(customs, (one, two))
    rows = custom_nodes(customs)
    there = derivation_under(rows, one.node, two.node)
    return there is not None and derivation_under(rows, two.node, one.node) is not None
