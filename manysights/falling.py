"""Cells in which parties keep their promises, and how others fall."""

from manysights.meanings import meanings_of


def note_rows(standing, web):
    """Return for each note whether it is owed at the open deal with each position."""
    return meanings_of(standing, [note[2].node for note in web.notes])


def balances(standing, web, rows):
    """Return how much more each party has than it owes at each position if all promises are kept."""
    purses = dict(web.purses)
    found = {name: [purses.get(name, 0)] * len(standing.deals) for name in standing.parties}
    for (issuer, holder, _, amount), truths in zip(web.notes, rows):
        for place, holding in enumerate(truths):
            if holding:
                found[issuer][place] -= amount
                found[holder][place] += amount
    return found


class Falling:
    """The cells that are left, and the balances of the parties with what is kept there.

    A fall is a tuple (round, party, cell, position) as in `falls` of a
    `Keeping`; `broken` has True for each cell that fell, as a party and its number.
    """

    def __init__(self, standing, web, rows):
        self._sights = [(name, standing.sight(name)) for name in standing.parties]
        self._places = {name: place for place, name in enumerate(standing.parties)}
        self._balances = balances(standing, web, rows)
        self._notes = {name: [] for name in standing.parties}
        for (issuer, holder, _, amount), truths in zip(web.notes, rows):
            self._notes[issuer].append((holder, amount, truths))
        self.broken = {}
        self.falls = []

    def _fall_of(self, count, index, mark):
        """Return the fall of a cell in this round if it falls, otherwise None."""
        name, sight = self._sights[index]
        balance = self._balances[name]
        for place in sight.cells[mark]:
            if balance[place] < 0:
                return (count, name, mark, place)
        return None

    def _falls_among(self, count, pairs):
        """Return the falls of this round among cells, as pairs of the index of a party and a number."""
        found = []
        for index, mark in pairs:
            if (self._sights[index][0], mark) not in self.broken:
                fall = self._fall_of(count, index, mark)
                if fall is not None:
                    found.append(fall)
        return found

    def _drop(self, name, mark):
        """Take what is not paid any more from its holders; return the cells in which they lack it."""
        self.broken[(name, mark)] = True
        touched = []
        for holder, amount, truths in self._notes[name]:
            index = self._places[holder]
            for place in self._sights[self._places[name]][1].cells[mark]:
                if truths[place]:
                    self._balances[holder][place] -= amount
                    touched.append((index, self._sights[index][1].marks[place]))
        return touched

    def work_out(self):
        """Drop cells, round by round, until no more fall."""
        count = 1
        pairs = [(index, mark) for index, (_, sight) in enumerate(self._sights) for mark in range(len(sight.cells))]
        while pairs:
            falls = self._falls_among(count, pairs)
            touched = []
            for fall in falls:
                touched.extend(self._drop(fall[1], fall[2]))
            self.falls.extend(falls)
            # Only where something is lacking now can a cell fall that did not fall before.
            pairs = sorted(set(touched))
            count += 1

    def keeps(self, name):
        """Return for each position whether the party keeps its promises there."""
        sight = self._sights[self._places[name]][1]
        return [(name, mark) not in self.broken for mark in sight.marks]


def fallen(standing, web, rows):
    """Return the cells that are left and those that fell, when all rounds are done."""
    falling = Falling(standing, web, rows)
    falling.work_out()
    return falling
