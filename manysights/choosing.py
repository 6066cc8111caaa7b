"""Sets of indexes in the order in which the smallest ones are looked for."""


def index_sets(count):
    """Return all tuples of different indexes in ascending order, shorter ones first."""
    found = [()]
    for index in range(count):
        found = found + [(*row, index) for row in found]
    return sorted(found, key=lambda row: (len(row), row))
