"""Sights: which of the deals 0 to size - 1 are told apart."""

from manysights.errors import NoDeals, SizesDiffer


def renumbered(marks):
    """Return the number of its cell for each deal."""
    numbers = {}
    found = []
    for mark in marks:
        found.append(numbers.setdefault(mark, len(numbers)))
    return tuple(found)


def listed_cells(marks):
    """Return the deals of each cell; the marks are numbers of cells, from 0 on."""
    found = [[] for _ in range(max(marks) + 1)]
    for deal, mark in enumerate(marks):
        found[mark].append(deal)
    return tuple([tuple(cell) for cell in found])


def joined_marks(one, two):
    """Return marks that are equal where a chain leads from deal to deal.

    Each deal joins its cell of `one` to its cell of `two`. Joined cells of
    `one` form a tree in `boss`, and the root stands for all of them.
    """
    boss = list(range(len(one)))
    first = {}
    for mark, other in zip(one, two):
        if other not in first:
            first[other] = mark
        low = first[other]
        while boss[low] != low:
            # Halving the way to the root keeps later ways short.
            boss[low] = boss[boss[low]]
            low = boss[low]
        high = mark
        while boss[high] != high:
            boss[high] = boss[boss[high]]
            high = boss[high]
        boss[high] = low
    found = []
    for mark in one:
        root = mark
        while boss[root] != root:
            boss[root] = boss[boss[root]]
            root = boss[root]
        found.append(root)
    return found


def check_sizes(one, two):
    """Raise SizesDiffer if the sights have different sizes."""
    if one.size != two.size:
        raise SizesDiffer(one.size, two.size)


class Sight:
    """A division of the deals into cells; it tells deals of different cells apart."""

    def __init__(self, marks):
        numbers = renumbered(marks)
        if len(numbers) == 0:
            raise NoDeals()
        self.size = len(numbers)
        self.marks = numbers
        self._cells = listed_cells(numbers)

    @classmethod
    def nothing(cls, size):
        """Return the sight in which all deals are alike."""
        return cls([0] * size)

    @classmethod
    def everything(cls, size):
        """Return the sight in which no two different deals are alike."""
        return cls(list(range(size)))

    @property
    def cells(self):
        """The deals of each cell, cells in ascending order of their least deals."""
        return self._cells

    def cell_of(self, deal):
        """Return the deals that are alike to this one."""
        return self._cells[self.marks[deal]]

    def alike(self, one, two):
        """Tell whether the two deals are alike."""
        return self.marks[one] == self.marks[two]

    def __and__(self, other):
        check_sizes(self, other)
        pairs = list(zip(self.marks, other.marks))
        count = len(set(pairs))
        # Who tells the other one is what both tell together.
        if count == len(self._cells):
            return self
        if count == len(other._cells):
            return other
        return Sight(pairs)

    def __or__(self, other):
        check_sizes(self, other)
        return Sight(joined_marks(self.marks, other.marks))

    def __eq__(self, other):
        return isinstance(other, Sight) and self.marks == other.marks
