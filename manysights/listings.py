"""Sights of fewer deals, products, and lists of all sights."""

from manysights.sights import Sight


def restricted(sight, deals):
    """Return the sight of the listed deals alone."""
    return Sight([sight.marks[deal] for deal in deals])


def crossed(one, two):
    """Return the sight of pairs of deals, told apart where a part is told apart."""
    return Sight([(mark, other) for mark in one.marks for other in two.marks])


def marks_after(marks):
    """Return the least marks of a sight that are greater than these, or None."""
    for place in reversed(range(1, len(marks))):
        if marks[place] <= max(marks[:place]):
            return marks[:place] + [marks[place] + 1] + [0] * (len(marks) - place - 1)
    return None


def all_sights(size):
    """Yield all sights of this size in ascending order of their marks."""
    marks = [0] * size
    while marks is not None:
        yield Sight(marks)
        marks = marks_after(marks)


def row_after(row):
    """Return the row of Bell's triangle after this one."""
    fresh = [row[-1]]
    for number in row:
        fresh.append(fresh[-1] + number)
    return fresh


def sight_count(size):
    """Return the number of sights of this size."""
    # The rows of Bell's triangle end with these numbers.
    row = [1]
    for _ in range(size - 1):
        row = row_after(row)
    return row[-1]


def in_order(rows):
    """Return the sights of these marks in ascending order of marks."""
    return tuple(sorted([Sight(row) for row in rows], key=lambda sight: sight.marks))


def split_off(marks, deals):
    """Return marks in which the listed deals form a cell of their own."""
    listed = {deal: True for deal in deals}
    return [-1 if deal in listed else mark for deal, mark in enumerate(marks)]


def splits(sight):
    """Return all sights with one cell more that tell this sight."""
    rows = []
    for cell in sight.cells:
        # The least deal stays where it is, so that no division comes twice.
        choices = [()]
        for deal in cell[1:]:
            choices = choices + [(*choice, deal) for choice in choices]
        rows.extend([split_off(sight.marks, choice) for choice in choices[1:]])
    return in_order(rows)


def merges(sight):
    """Return all sights with one cell less that this sight tells."""
    count = len(sight.cells)
    rows = []
    for high in range(count):
        for low in range(high):
            rows.append([low if mark == high else mark for mark in sight.marks])
    return in_order(rows)
