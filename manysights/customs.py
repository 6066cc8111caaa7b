"""What plain views tell in every standing that keeps certain customs."""

from manysights.chains import tells
from manysights.deriving import is_right
from manysights.joining import all_parties, joined_sights, standing_of
from manysights.meanings import part_sight
from manysights.naming import check_names, check_party
from manysights.orders import Telling
from manysights.plains import check_plain
from manysights.under import derivation_under


def custom_parts(customs):
    """Return the customs with the parts of their views."""
    return [(view.parts, party) for view, party in customs]


def check_all_plain(customs, views):
    """Raise NotPlain if a view of the customs or one of the views is not plain."""
    check_plain([view for view, _ in customs])
    check_plain(views)


def keeps_customs(standing, customs):
    """Tell whether the standing keeps all customs."""
    check_all_plain(customs, ())
    for view, party in customs:
        check_names(standing, view.parts)
        check_party(standing, party)
    return all([tells(part_sight(standing, view.parts), standing.sight(party)) for view, party in customs])


def is_derivation_under(customs, one, two, value):
    """Tell whether the value is a derivation under the customs that `one` tells `two`."""
    check_all_plain(customs, (one, two))
    return is_right(custom_parts(customs), one.parts, two.parts, value)


def tells_under(customs, one, two):
    """Return whether `one` tells `two` under the customs, with what shows it."""
    check_all_plain(customs, (one, two))
    rows = custom_parts(customs)
    derivation = derivation_under(rows, one.parts, two.parts)
    if derivation is not None:
        return Telling(derivation, None, None)
    names = all_parties((one.parts, two.parts), rows)
    return Telling(None, standing_of(joined_sights(names, rows, one.parts), ()), (0, 1))


def same_under(customs, one, two):
    """Tell whether each of the views tells the other one under the customs."""
    check_all_plain(customs, (one, two))
    rows = custom_parts(customs)
    there = derivation_under(rows, one.parts, two.parts)
    return there is not None and derivation_under(rows, two.parts, one.parts) is not None
