"""Bargains: parties say aloud by turns whether what they are offered is worth more than zero to them."""

from manysights.chances import term_nodes
from manysights.claims import Claim
from manysights.errors import NoSpeakers, TakenName
from manysights.meanings import meaning_of, open_where
from manysights.naming import PARTY, check_names
from manysights.talks import turns_of


class Bargain:
    """How a bargain ends, and where all parties gain then."""

    def __init__(self, end, rounds, agreed):
        self.end = end
        self.rounds = rounds
        self.agreed = agreed


def check_offers(standing, offers):
    """Raise an error for an unknown name, for no offers, or for a party that stands there twice."""
    entries = []
    for party, terms in offers:
        entries.extend([(PARTY, party)] + term_nodes(terms))
    check_names(standing, entries)
    if len(offers) == 0:
        raise NoSpeakers()
    taken = {}
    for party, _ in offers:
        if party in taken:
            raise TakenName(party)
        taken[party] = True


def bargain(standing, offers):
    """Return how a bargain over these offers ends."""
    check_offers(standing, offers)
    turns = list(turns_of(standing, offers, True))
    end = turns[-1][2]
    gaining = Claim.all_of([Claim.gains(party, terms) for party, terms in offers])
    agreed = open_where(end, meaning_of(end, gaining.node))
    return Bargain(end, len(turns) // len(offers), agreed)
