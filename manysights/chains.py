"""Which sights tell others, and chains of deals that are alike."""

from manysights.errors import SizesDiffer


def tells(one, two):
    """Tell whether deals that are alike in `one` are always alike in `two`."""
    return unlike_pair(one, two) is None


def unlike_pair(one, two):
    """Return the first two deals that are alike in `one` but not in `two`, or None."""
    if one.size != two.size:
        raise SizesDiffer(one.size, two.size)
    # If a cell of `one` has any such pair, its least deal belongs to one.
    for cell in one.cells:
        for other in cell:
            if two.marks[other] != two.marks[cell[0]]:
                return (cell[0], other)
    return None


def check_equal_sizes(sights):
    """Raise SizesDiffer for the first sight with another size than the first one."""
    for sight in sights:
        if sight.size != sights[0].size:
            raise SizesDiffer(sights[0].size, sight.size)


def fresh_cells(sights, layer, done):
    """Return the cells of these deals that are not done yet; now they are."""
    found = []
    for deal in layer:
        for index, sight in enumerate(sights):
            mark = sight.marks[deal]
            if (index, mark) not in done:
                done[(index, mark)] = True
                found.append(sight.cells[mark])
    return found


def fresh_deals(cells, steps, found):
    """Return the deals of the cells that are not found yet; now they are, in so many steps."""
    fresh = []
    for cell in cells:
        for deal in cell:
            if deal not in found:
                found[deal] = steps
                fresh.append(deal)
    return fresh


def distances(sights, starts):
    """Return the number of steps from the nearest of `starts` for each deal reached."""
    found = {deal: 0 for deal in starts}
    done = {}
    layer = list(found)
    steps = 0
    while layer:
        steps += 1
        layer = fresh_deals(fresh_cells(sights, layer, done), steps, found)
    return found


def next_step(sights, deal, far, steps):
    """Return the first step (deal, index) to a deal that is `steps` steps from the goals."""
    found = []
    for index, sight in enumerate(sights):
        nearer = [other for other in sight.cell_of(deal) if far.get(other) == steps]
        if nearer:
            found.append((nearer[0], index))
    return min(found)


def first_chain(sights, start, goals):
    """Return the first chain from `start` to any of the goals, or None."""
    far = distances(sights, goals)
    if start not in far:
        return None
    chain = []
    deal = start
    for steps in reversed(range(far[start])):
        deal, index = next_step(sights, deal, far, steps)
        chain.append((index, deal))
    return tuple(chain)


def links(sights, start, goal):
    """Return the first chain from `start` to `goal`, or None."""
    check_equal_sizes(sights)
    return first_chain(sights, start, (goal,))


def reached(sights, start):
    """Return all deals to which a chain leads from `start`."""
    check_equal_sizes(sights)
    return tuple(sorted(distances(sights, (start,))))


def is_closed(sights, deals):
    """Tell whether all deals that are alike to listed deals are listed."""
    check_equal_sizes(sights)
    listed = {deal: True for deal in deals}
    for sight in sights:
        touched = {sight.marks[deal]: True for deal in listed}
        for deal, mark in enumerate(sight.marks):
            if mark in touched and deal not in listed:
                return False
    return True
