"""Choices that force other choices.

A choice has a number: twice the number of its cell, and 1 more for act 1. The
rows say which choices each choice forces. If a choice forces another one, the
other act in the cell of the second forces the other act in the cell of the first.
"""

from manysights.strong import components


def forced_rows(cells, wanted):
    """Return the choices that each choice forces.

    What is wanted are triples of truths at the positions and two sides, one of
    which is to be done where it is true.
    """
    found = [{} for _ in range(2 * len(cells.pairs))]
    for truths, (name, act), (second, deed) in wanted:
        for holding, one, two in zip(truths, cells.numbers(name), cells.numbers(second)):
            if holding:
                found[2 * one + 1 - act][2 * two + deed] = True
                found[2 * two + 1 - deed][2 * one + act] = True
    return [list(row) for row in found]


def clashing_choice(rows, parts):
    """Return a choice that forces, step by step, the other one of its cell and is forced by it, or None.

    The parts are the greatest sets of choices that force each other.
    """
    part_of = {}
    for index, part in enumerate(parts):
        part_of.update({choice: index for choice in part})
    for choice in range(0, len(rows), 2):
        if part_of[choice] == part_of[choice + 1]:
            return choice
    return None


def is_possible(rows):
    """Tell whether one choice can be made in each cell with all that it forces."""
    return clashing_choice(rows, components(rows)) is None


def way_between(rows, start, goal):
    """Return choices from `start` to `goal`, each of which forces the next one."""
    came = {start: None}
    waiting = [start]
    place = 0
    while goal not in came:
        choice = waiting[place]
        place += 1
        fresh = [other for other in rows[choice] if other not in came]
        came.update({other: choice for other in fresh})
        waiting.extend(fresh)
    way = [goal]
    while came[way[-1]] is not None:
        way.append(came[way[-1]])
    return way[::-1]


def self_defeating(rows, parts):
    """Return for each choice whether it forces, step by step, the other one of its cell."""
    # The bits of a whole number stand for choices; parts come before those that they force.
    reached = [0] * len(rows)
    found = [False] * len(rows)
    for part in parts[::-1]:
        bits = 0
        for choice in part:
            bits = bits | 1 << choice
            for other in rows[choice]:
                bits = bits | reached[other]
        for choice in part:
            reached[choice] = bits
            found[choice] = bits >> (choice ^ 1) & 1 == 1
    return found


def settle(rows, acts, choice):
    """Make a choice and all that it forces."""
    waiting = [choice]
    while waiting:
        last = waiting.pop()
        if acts[last // 2] is None:
            acts[last // 2] = last % 2
            waiting.extend(rows[last])


def first_acts(rows, parts):
    """Return the first acts of all cells, if there are any that what they force allows.

    A choice that does not defeat itself never forces the other act in a cell
    that was settled before: by the same way back it would have been settled.
    """
    defeated = self_defeating(rows, parts)
    count = len(rows) // 2
    acts = [None] * count
    for cell in range(count):
        if acts[cell] is None:
            settle(rows, acts, 2 * cell + int(defeated[2 * cell]))
    return acts
