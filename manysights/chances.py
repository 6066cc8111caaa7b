"""What chances a party gives to claims, and what it holds terms worth."""

from manysights.meanings import meanings_of, worths_in
from manysights.naming import PARTY, check_names


def term_nodes(terms):
    """Return the nodes of the claims of terms, in order."""
    return [claim.node for _, claim in terms]


def worths_of(standing, party, terms):
    """Return the worth of the terms for the party at the open deal with each position."""
    rows = meanings_of(standing, term_nodes(terms))
    numbers = [number for number, _ in terms]
    return worths_in(standing.weights(party), standing.sight(party), numbers, rows)


def worth(standing, party, terms, deal):
    """Return the worth of the terms for the party at an open deal."""
    check_names(standing, [(PARTY, party)] + term_nodes(terms))
    return worths_of(standing, party, terms)[standing.position(deal)]


def chance(standing, party, claim, deal):
    """Return the chance that the party gives to the claim at an open deal."""
    return worth(standing, party, ((1, claim),), deal)


def chances(standing, party, claim):
    """Return the chances that the party gives to the claim at all open deals."""
    check_names(standing, [(PARTY, party), claim.node])
    return tuple(worths_of(standing, party, ((1, claim),)))
