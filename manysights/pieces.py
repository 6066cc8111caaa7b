"""What all parties know in common, and two tables side by side."""

from manysights.chains import reached
from manysights.errors import TakenName
from manysights.listings import crossed
from manysights.sights import Sight
from manysights.standings import made_standing


def common_sight(standing):
    """Return the sight whose cells are the pieces."""
    common = Sight.everything(len(standing.deals))
    for party in standing.parties:
        # Nothing is left to join where all deals are alike.
        if len(common.cells) > 1:
            common = common | standing.sight(party)
    return common


def open_deals(standing, places):
    """Return the open deals with these positions."""
    return tuple([standing.deals[place] for place in places])


def pieces(standing):
    """Return the pieces as standings, in ascending order of their least deals."""
    cells = common_sight(standing).cells
    if len(cells) == 1:
        return (standing,)
    return tuple([standing.only(open_deals(standing, cell)) for cell in cells])


def is_one_piece(standing):
    """Tell whether the standing has exactly one piece."""
    return len(common_sight(standing).cells) == 1


def piece_of(standing, deal):
    """Return the piece that contains the deal, as a standing."""
    sights = [standing.sight(party) for party in standing.parties]
    return standing.only(open_deals(standing, reached(sights, standing.position(deal))))


def crossed_row(row, other):
    """Return the product of two rows of weights, in the order of crossed deals."""
    return tuple([weight * second for weight in row for second in other])


def crossed_party(one, two, name):
    """Return name, sight and weights of a party of two tables side by side."""
    sight, other = Sight.nothing(len(one.deals)), Sight.nothing(len(two.deals))
    weights, second = (1,) * len(one.deals), (1,) * len(two.deals)
    if name in one.parties:
        sight, weights = one.sight(name), one.weights(name)
    if name in two.parties:
        other, second = two.sight(name), two.weights(name)
    return (name, crossed(sight, other), crossed_row(weights, second))


def beside(one, two):
    """Return the standing of two tables that have nothing to do with each other."""
    for name in two.facts:
        if name in one.facts:
            raise TakenName(name)
    many, count = len(one.deals), len(two.deals)
    facts = [(name, crossed_row(one.digits(name), (1,) * count)) for name in one.facts]
    facts.extend([(name, crossed_row((1,) * many, two.digits(name))) for name in two.facts])
    names = list(one.parties)
    names.extend([name for name in two.parties if name not in one.parties])
    parties = [crossed_party(one, two, name) for name in names]
    return made_standing(list(range(many * count)), facts, parties)
