"""Talks: speakers say aloud by turns what they hold terms worth."""

from manysights.chances import term_nodes, worths_of
from manysights.claims import Claim
from manysights.doing import shown
from manysights.errors import NoSpeakers
from manysights.meanings import meaning_of
from manysights.naming import PARTY, check_names
from manysights.sights import Sight


class Talk:
    """The turns of a talk with so many speakers."""

    def __init__(self, turns, count):
        self.turns = turns
        self.end = turns[-1][2]
        self.rounds = len(turns) // count


def said_by(standing, party, terms, leaning):
    """Return what the party says of the terms at the open deal with each position."""
    if leaning:
        return meaning_of(standing, Claim.gains(party, terms).node)
    return worths_of(standing, party, terms)


def turns_of(standing, offers, leaning):
    """Yield the turns of a talk; the offers are pairs of a speaker and the terms that it speaks of."""
    is_changed = True
    while is_changed:
        start = standing
        for party, terms in offers:
            said = said_by(standing, party, terms, leaning)
            standing = shown(standing, standing.parties, [Sight(said)] * len(standing.parties))
            yield (party, tuple(said), standing)
        is_changed = standing != start


def offers_of(standing, speakers, terms):
    """Return the offers of speakers who all speak of the same terms, after the arguments were looked at."""
    check_names(standing, [(PARTY, name) for name in speakers] + term_nodes(terms))
    if len(speakers) == 0:
        raise NoSpeakers()
    # The caller may change the arguments of a generator between its items.
    rows = tuple([tuple(term) for term in terms])
    return tuple([(name, rows) for name in speakers])


def talk(standing, speakers, terms):
    """Return the talk in which each speaker says what it holds the terms worth."""
    offers = offers_of(standing, speakers, terms)
    turns = tuple(turns_of(standing, offers, False))
    return Talk(turns, len(offers))


def spoken(standing, speakers, terms):
    """Yield the turns of a talk, each when it is asked for."""
    offers = offers_of(standing, speakers, terms)
    yield from turns_of(standing, offers, False)


def leaning_talk(standing, speakers, terms):
    """Return the talk in which each speaker says whether it holds the terms worth more than zero."""
    offers = offers_of(standing, speakers, terms)
    turns = tuple(turns_of(standing, offers, True))
    return Talk(turns, len(offers))
