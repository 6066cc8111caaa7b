"""Plain searches over plays of turns, by the words of points 58 to 65."""

from manysights.claims import Claim
from manysights.deeds import Deed
from manysights.meanings import where
from manysights.pieces import pieces
from manysights.plays import moves, reachable
from manysights.standings import Standing
from manysights.views import View
from tests.helpers import digit_step, error_of, random_deed, random_standing

INF = 10**9


def holds_in(state, claim):
    """Tell whether a claim, or None, holds at all deals of a state."""
    return claim is None or where(state, claim) == state.deals


class PlainTurns:
    """What can follow, worked out with `moves` alone."""

    def __init__(self, ours, theirs):
        self.ours, self.theirs, self.known = list(ours), list(theirs), {}

    def _moves(self, state, menu, turn):
        if (state.key, turn) not in self.known:
            self.known[(state.key, turn)] = moves(state, menu)
        return self.known[(state.key, turn)]

    def choices(self, state):
        """Return the states after waiting and after each deed of ours."""
        found = self._moves(state, self.ours, 0)
        return [[state]] + [[other for at, other in found if at == index] for index in range(len(self.ours))]

    def replies(self, state):
        """Return the states after their turn."""
        return [state] + [other for _, other in self._moves(state, self.theirs, 1)]


class Game(PlainTurns):
    """All states that can be reached, with plain searches."""

    def __init__(self, standing, ours, theirs):
        super().__init__(ours, theirs)
        self.states = list(reachable(standing, list(ours) + list(theirs), limit=2000))
        self.keys = {state.key: number for number, state in enumerate(self.states)}
        self.starts = [self.number(piece) for piece in pieces(standing)]
        self.after = [[[self.number(one) for one in row] for row in self.choices(state)] for state in self.states]
        self.then = [[self.number(one) for one in self.replies(state)] for state in self.states]

    def number(self, state):
        """Return the number of a state."""
        return self.keys[state.key]

    def worths(self, prices):
        """Return for each state the greatest price of what follows their turn."""
        return [max(prices[other] for other in row) for row in self.then]

    def prices(self, goals, fine, costs):
        """Return the prices of all states, INF for none; `costs` are those of waiting and of our deeds."""
        prices = [0 if number in goals and fine[number] else INF for number in range(len(self.states))]
        while True:
            worths = self.worths(prices)
            fresh = []
            for number, row in enumerate(self.after):
                best = min(max(worths[other] for other in others) + cost for others, cost in zip(row, costs))
                fresh.append(prices[number] if prices[number] == 0 or not fine[number] else min(best, INF))
            if fresh == prices:
                return prices
            prices = fresh

    def ranks(self, wrong):
        """Return the ranks of point 62 at our turn and at theirs, INF for none."""
        ours = [0 if number in wrong else INF for number in range(len(self.states))]
        theirs = list(ours)
        while True:
            one = [0 if number in wrong else min(INF, 1 + max(min(theirs[x] for x in others) for others in row))
                   for number, row in enumerate(self.after)]
            two = [0 if number in wrong else min(INF, 1 + min(ours[x] for x in row))
                   for number, row in enumerate(self.then)]
            if (one, two) == (ours, theirs):
                return ours, theirs
            ours, theirs = one, two

    def visits(self, goals):
        """Return how often we can force the goal at our turn, from our turn and from theirs; INF for ever."""
        most = len(self.states) + 1
        ours, theirs = [0] * len(self.states), [0] * len(self.states)
        while True:
            one = [min(most, (number in goals) + max(min(theirs[x] for x in others) for others in row))
                   for number, row in enumerate(self.after)]
            two = [min(most, min(ours[x] for x in row)) for row in self.then]
            if (one, two) == (ours, theirs):
                return [[INF if x == most else x for x in row] for row in (ours, theirs)]
            ours, theirs = one, two


def random_facts(random, facts="fg"):
    """Return a random claim of facts."""
    claim = Claim.fact(random.choice(facts), random.randint(0, 2))
    other = Claim.fact(random.choice(facts), random.randint(0, 2))
    return random.choice([claim, ~claim, claim & other, claim | other, claim & ~other])


def random_turn_deed(random, *, calls):
    """Return a random deed for a menu of turns."""
    kind = random.randint(0, 5 if calls else 4)
    if kind == 0:
        return Deed.announce(View.whether(random_facts(random)))
    if kind in (1, 2):
        cases = [(random_facts(random), random.randint(0, 2)) for _ in range(random.randint(1, 2))]
        return Deed.change([(random.choice("fg"), cases)])
    if kind == 3:
        return digit_step(random.choice("fg"), 2)
    return random_deed(random, 1, "ab", calls=calls)


def random_game(random):
    """Return a random standing and two menus, with not too many states."""
    while True:
        standing, ours, theirs = any_game(random)
        if error_of(reachable, standing, ours + theirs, limit=50) is None:
            return standing, ours, theirs


def any_game(random):
    """Return a random standing and two menus."""
    standing = random_standing(random, most=3, parties="ab", weights=False)
    if random.random() < 0.5:
        standing = Standing(2).with_fact("f", [random.randint(0, 2) for _ in range(2)])
        standing = standing.with_fact("g", [random.randint(0, 2) for _ in range(2)])
        standing = standing.with_party("a", [0, 0]).with_party("b", [0, random.randint(0, 1)])
    ours = [random_turn_deed(random, calls=False) for _ in range(random.randint(1, 3))]
    theirs = [random_turn_deed(random, calls=True) for _ in range(random.randint(0, 2))]
    return standing, ours, theirs


def spoilt(chance, rows, count, is_turn):
    """Return rows of a table with one thing changed; second items are turns, or else choices."""
    rows = [list(row) for row in rows]
    place = chance.randrange(len(rows))
    kind = chance.randint(0, 3)
    if kind == 0:
        rows.pop(place)
    elif kind == 1:
        rows.insert(place, list(rows[place]))
    if rows and kind:
        row = rows[chance.randrange(len(rows))]
        at = chance.randint(0, len(row) - 1)
        if at == 0:
            row[0] = chance.choice(rows)[0]
        elif at == 1 and is_turn:
            row[1] = chance.randint(0, 1)
        elif at == 1:
            row[1] = chance.choice([None, *range(-1, count + 1)])
        else:
            row[2] += chance.choice([-1, 1])
    return rows
