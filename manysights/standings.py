"""Standings: the open deals, the facts and the parties of a table at one moment."""

from manysights.checks import check_name, is_digit, is_whole
from manysights.errors import BadCount, BadDigit, BadLength, BadWeight, NoDeals
from manysights.errors import TakenName, UnknownDeal, UnknownFact, UnknownParty
from manysights.sights import Sight


def made_standing(deals, facts, parties, places=None):
    """Return the standing with these deals, facts and parties.

    Facts are pairs (name, digits), parties are triples (name, sight, weights).
    The places are the positions under the deals, of a standing with the same deals.
    """
    made = Standing(1)
    made.deals = tuple(deals)
    made.facts = tuple([row[0] for row in facts])
    made.parties = tuple([row[0] for row in parties])
    made._fact_rows = tuple(facts)
    made._party_rows = tuple([(name, sight.marks, weights) for name, sight, weights in parties])
    made._digits = dict(facts)
    made._sights = {name: sight for name, sight, _ in parties}
    made._weights = {name: weights for name, _, weights in parties}
    made._places = {deal: place for place, deal in enumerate(deals)} if places is None else places
    return made


def with_sights(standing, sights):
    """Return the standing in which the parties have the sights under their names."""
    facts = [(name, standing.digits(name)) for name in standing.facts]
    parties = [(name, sights[name], standing.weights(name)) for name in standing.parties]
    return made_standing(standing.deals, facts, parties, standing._places)


def with_digits(standing, digits):
    """Return the standing in which the facts have the digits under their names."""
    facts = [(name, digits[name]) for name in standing.facts]
    parties = [(name, standing.sight(name), standing.weights(name)) for name in standing.parties]
    return made_standing(standing.deals, facts, parties, standing._places)


def picked(row, places):
    """Return the items of the row at these places."""
    return tuple([row[place] for place in places])


def check_digits(digits):
    """Raise BadDigit for the first item that is not a digit."""
    for index, item in enumerate(digits):
        if not is_digit(item):
            raise BadDigit(index)


def check_weights(weights):
    """Raise BadWeight for the first item that is not a weight."""
    for index, item in enumerate(weights):
        if not is_whole(item) or item < 1:
            raise BadWeight(index)


class Standing:
    """A table at one moment; it never changes."""

    def __init__(self, count):
        if not is_whole(count) or not 1 <= count <= 2000:
            raise BadCount(count)
        self.deals = tuple(range(count))
        self.facts = ()
        self.parties = ()
        self._fact_rows = ()
        self._party_rows = ()
        self._digits = {}
        self._sights = {}
        self._weights = {}
        self._places = {deal: deal for deal in range(count)}

    @property
    def key(self):
        """A tuple that equal standings have in common and others have not."""
        return (self.deals, self._fact_rows, self._party_rows)

    def _party_triples(self):
        """Return name, sight and weights of each party."""
        return tuple([(name, self._sights[name], self._weights[name]) for name in self.parties])

    def with_fact(self, name, digits):
        """Return the standing with one more fact."""
        check_name(name)
        if name in self._digits:
            raise TakenName(name)
        row = tuple(digits)
        if len(row) != len(self.deals):
            raise BadLength(len(row))
        check_digits(row)
        return made_standing(self.deals, (*self._fact_rows, (name, row)), self._party_triples())

    def with_party(self, name, marks, *, weights=None):
        """Return the standing with one more party."""
        check_name(name)
        if name in self._sights:
            raise TakenName(name)
        if len(marks) != len(self.deals):
            raise BadLength(len(marks))
        row = (1,) * len(self.deals) if weights is None else tuple(weights)
        if len(row) != len(self.deals):
            raise BadLength(len(row))
        check_weights(row)
        triples = list(self._party_triples())
        triples.append((name, Sight(marks), row))
        return made_standing(self.deals, self._fact_rows, triples)

    def without_fact(self, name):
        """Return the standing without this fact."""
        if name not in self._digits:
            raise UnknownFact(name)
        rest = [row for row in self._fact_rows if row[0] != name]
        return made_standing(self.deals, rest, self._party_triples())

    def without_party(self, name):
        """Return the standing without this party."""
        if name not in self._sights:
            raise UnknownParty(name)
        rest = [row for row in self._party_triples() if row[0] != name]
        return made_standing(self.deals, self._fact_rows, rest)

    def only(self, deals):
        """Return the standing in which only the listed deals are open."""
        places = [self.position(deal) for deal in deals]
        if len(places) == 0:
            raise NoDeals()
        places = sorted(set(places))
        facts = [(name, picked(digits, places)) for name, digits in self._fact_rows]
        parties = []
        for name, marks, weights in self._party_rows:
            parties.append((name, Sight(picked(marks, places)), picked(weights, places)))
        return made_standing(picked(self.deals, places), facts, parties)

    def digit(self, fact, deal):
        """Return the digit of the fact at an open deal."""
        return self.digits(fact)[self.position(deal)]

    def digits(self, fact):
        """Return the digits of the fact at all open deals."""
        if fact not in self._digits:
            raise UnknownFact(fact)
        return self._digits[fact]

    def sight(self, party):
        """Return the sight of the party."""
        if party not in self._sights:
            raise UnknownParty(party)
        return self._sights[party]

    def weights(self, party):
        """Return the weights of the party at all open deals."""
        if party not in self._weights:
            raise UnknownParty(party)
        return self._weights[party]

    def position(self, deal):
        """Return the position of an open deal."""
        if deal not in self._places:
            raise UnknownDeal(deal)
        return self._places[deal]

    def __contains__(self, deal):
        return deal in self._places

    def __len__(self):
        return len(self.deals)

    def __iter__(self):
        return iter(self.deals)

    def __eq__(self, other):
        return isinstance(other, Standing) and self.key == other.key
