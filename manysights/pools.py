"""What groups of parties know together."""

from manysights.chains import tells
from manysights.choosing import index_sets
from manysights.meanings import meaning_of
from manysights.naming import PARTY, check_names
from manysights.pieces import common_sight


def group_entries(group):
    """Return the entries of the names in a group (see names_of)."""
    return [(PARTY, name) for name in group]


def pool(standing, common, group):
    """Return what a group knows together; `common` is the common sight of the standing."""
    sight = common
    for name in group:
        sight = sight & standing.sight(name)
    return sight


def pooled_sight(standing, group):
    """Return what a group knows together."""
    check_names(standing, group_entries(group))
    return pool(standing, common_sight(standing), group)


def groups_by_seeing(standing, view):
    """Return pairs of a group, as indexes of parties, and whether it sees the view."""
    check_names(standing, (view.node,))
    common, seen = common_sight(standing), meaning_of(standing, view.node)
    found = []
    for row in index_sets(len(standing.parties)):
        group = [standing.parties[index] for index in row]
        found.append((row, tells(pool(standing, common, group), seen)))
    return found


def named(standing, rows):
    """Return the groups with names in place of indexes."""
    return tuple([tuple([standing.parties[index] for index in row]) for row in rows])


def seeing_groups(standing, view):
    """Return the least groups that see the view."""
    sees = {row: seeing for row, seeing in groups_by_seeing(standing, view)}
    # Who is one more in a group that sees the view does not take that away.
    least = []
    for row in sees:
        fewer = [tuple([other for other in row if other != index]) for index in row]
        if sees[row] and not any([sees[other] for other in fewer]):
            least.append(row)
    return named(standing, least)


def unseeing_groups(standing, view):
    """Return the greatest groups that do not see the view."""
    sees = {row: seeing for row, seeing in groups_by_seeing(standing, view)}
    greatest = []
    for row in sees:
        rest = [index for index in range(len(standing.parties)) if index not in row]
        more = [tuple(sorted((*row, index))) for index in rest]
        if not sees[row] and all([sees[other] for other in more]):
            greatest.append(row)
    return named(standing, greatest)
