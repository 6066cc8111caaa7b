"""Which promises can be kept for sure."""

from manysights.chains import is_closed
from manysights.errors import TakenName
from manysights.falling import balances, fallen, note_rows
from manysights.meanings import open_where
from manysights.naming import PARTY, check_names


def web_entries(web):
    """Return the entries of the names in a web (see names_of)."""
    found = []
    for issuer, holder, claim, _ in web.notes:
        found.extend([(PARTY, issuer), (PARTY, holder), claim.node])
    found.extend([(PARTY, party) for party, _ in web.purses])
    return found


class Keeping:
    """Where each party keeps its promises, and the cells in which it cannot."""

    def __init__(self, kept, falls):
        self.kept = kept
        self.falls = falls
        self.sure = len(falls) == 0


def keeping(standing, web):
    """Return where each party keeps its promises."""
    check_names(standing, web_entries(web))
    falling = fallen(standing, web, note_rows(standing, web))
    kept = [(name, open_where(standing, falling.keeps(name))) for name in standing.parties]
    falls = [(count, name, mark, standing.deals[place]) for count, name, mark, place in falling.falls]
    return Keeping(tuple(kept), tuple(falls))


def listed_places(standing, kept):
    """Return the positions listed for each party as keys, or None if the form is wrong."""
    if len(kept) != len(standing.parties) or not all([len(pair) == 2 for pair in kept]):
        return None
    if [pair[0] for pair in kept] != list(standing.parties):
        return None
    found = {}
    for name, deals in kept:
        if not all([deal in standing for deal in deals]):
            return None
        found[name] = {standing.position(deal): True for deal in deals}
    return found


def lacks_nothing(standing, web, listed):
    """Tell whether each party has enough at its listed positions, if the others pay where theirs are listed."""
    rows = note_rows(standing, web)
    has = balances(standing, web, rows)
    for (issuer, holder, _, amount), truths in zip(web.notes, rows):
        for place, holding in enumerate(truths):
            if holding and place not in listed[issuer]:
                has[holder][place] -= amount
    return all([has[name][place] >= 0 for name in listed for place in listed[name]])


def is_kept(standing, web, kept):
    """Tell whether these are whole cells in which all parties can keep their promises together."""
    check_names(standing, web_entries(web))
    listed = listed_places(standing, kept)
    if listed is None:
        return False
    if not all([is_closed((standing.sight(name),), list(listed[name])) for name in listed]):
        return False
    return lacks_nothing(standing, web, listed)


def with_keeping(standing, web):
    """Return the standing with one more fact for each party: where it keeps its promises."""
    check_names(standing, web_entries(web))
    for name in standing.parties:
        if name in standing.facts:
            raise TakenName(name)
    falling = fallen(standing, web, note_rows(standing, web))
    made = standing
    for name in standing.parties:
        made = made.with_fact(name, [int(kept) for kept in falling.keeps(name)])
    return made


def deposits(standing, web):
    """Return the least number by which each purse must be raised so that all promises are kept."""
    check_names(standing, web_entries(web))
    has = balances(standing, web, note_rows(standing, web))
    return tuple([(name, max(0, -min(has[name]))) for name in standing.parties])
