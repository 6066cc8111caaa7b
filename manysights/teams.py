"""Teams whose parties act at the same time, without talk."""

from manysights.forcing import clashing_choice, first_acts, forced_rows, way_between
from manysights.meanings import meanings_of
from manysights.naming import PARTY, check_names
from manysights.rules import Cells, acts_at, rule_of
from manysights.strong import components


def demand_entries(demands):
    """Return the entries of the names in demands (see names_of)."""
    found = []
    for claim, side, other in demands:
        found.extend([claim.node, (PARTY, side[0]), (PARTY, other[0])])
    return found


def wanted_in(standing, demands):
    """Return for each demand the truths of its claim in the standing and its two sides."""
    rows = meanings_of(standing, [demand[0].node for demand in demands])
    return [(truths, demand[1], demand[2]) for truths, demand in zip(rows, demands)]


class Team:
    """The first rule that meets all demands, or a ring that shows that there is none."""

    def __init__(self, rule, ring):
        self.rule = rule
        self.ring = ring


def named_choice(cells, choice):
    """Return the choice with this number as a party, the number of a cell and an act."""
    name, mark = cells.pairs[choice // 2]
    return (name, mark, choice % 2)


def team_rule(standing, demands):
    """Return the first rule that meets all demands, or a ring that shows that there is none."""
    check_names(standing, demand_entries(demands))
    cells = Cells(standing)
    rows = forced_rows(cells, wanted_in(standing, demands))
    parts = components(rows)
    choice = clashing_choice(rows, parts)
    if choice is None:
        return Team(rule_of(standing, first_acts(rows, parts)), None)
    way = way_between(rows, choice, choice + 1) + way_between(rows, choice + 1, choice)[1:]
    return Team(None, tuple([named_choice(cells, step) for step in way]))


def is_rule(standing, demands, rule):
    """Tell whether this is a rule that meets all demands."""
    check_names(standing, demand_entries(demands))
    acts = acts_at(standing, rule)
    if acts is None:
        return False
    for truths, (name, act), (second, deed) in wanted_in(standing, demands):
        for holding, one, two in zip(truths, acts[name], acts[second]):
            if holding and one != act and two != deed:
                return False
    return True


def numbered_choice(cells, choice):
    """Return the number of a choice, or None if there is no such choice."""
    if len(choice) != 3 or choice[2] not in (0, 1):
        return None
    number = cells.number_of(choice[0], choice[1])
    return None if number is None else 2 * number + choice[2]


def is_forcing(standing, demands, ring):
    """Tell whether this is a ring of choices that shows that no rule meets all demands."""
    check_names(standing, demand_entries(demands))
    cells = Cells(standing)
    way = [numbered_choice(cells, choice) for choice in ring]
    if len(way) == 0 or None in way or way[0] != way[-1] or way[0] ^ 1 not in way:
        return False
    rows = forced_rows(cells, wanted_in(standing, demands))
    return all([other in rows[choice] for choice, other in zip(way, way[1:])])
