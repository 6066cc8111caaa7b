"""Prices of states from which we can reach goals whatever others do."""

from heapq import heappop, heappush

from manysights.strong import backward


def greatest(prices):
    """Return the greatest price, or None if one of them is None."""
    return None if None in prices else max(prices)


class Pricing:
    """Finds the prices of states, lower ones first.

    So the last price that comes for what can follow is the greatest one. The
    costs are those of our choices; None is the cost of what we do not choose.
    """

    def __init__(self, board, fine, costs):
        self._fine = fine
        self._costs = costs
        self._before_theirs = backward(board.replies)
        self._before_ours = board.choices_with()
        self._replies_left = [len(row) for row in board.replies]
        self._left = [[len(others) for others in row] for row in board.choices]
        self._queue = []
        self.prices = [None] * len(board.states)

    def _offer(self, number, price):
        """Note that all that can follow their turn in this state has at most this price."""
        for state, choice in self._before_ours[number]:
            self._left[state][choice] -= 1
            cost = self._costs[choice]
            if cost is not None and self._left[state][choice] == 0 and self._fine[state]:
                heappush(self._queue, (price + cost, state))

    def _settle(self, number, price):
        """Note the price of a state."""
        self.prices[number] = price
        for state in self._before_theirs[number]:
            self._replies_left[state] -= 1
            if self._replies_left[state] == 0:
                self._offer(state, price)

    def work_out(self, goals):
        """Find all prices; those of the goals are 0."""
        for number in goals:
            heappush(self._queue, (0, number))
        while self._queue:
            price, number = heappop(self._queue)
            if self.prices[number] is None:
                self._settle(number, price)


def priced(board, fine, costs, goals):
    """Return the price of each state at our turn, and the greatest price of what can follow theirs."""
    pricing = Pricing(board, fine, costs)
    pricing.work_out(goals)
    prices = pricing.prices
    return (prices, [greatest([prices[number] for number in row]) for row in board.replies])


def first_choice(row, worths, bounds):
    """Return the first of our choices after which nothing is worth more than its bound.

    The row has what can come after each choice. None bounds what we do not choose.
    """
    for choice, others in enumerate(row):
        worth = greatest([worths[number] for number in others])
        if worth is not None and bounds[choice] is not None and worth <= bounds[choice]:
            return choice
    return None
