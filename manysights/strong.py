"""Sets of numbers between which ways lead in both directions.

The rows say to which numbers a step leads from each number.
"""


def backward(rows):
    """Return the rows of the steps in the other direction."""
    found = [[] for _ in rows]
    for number, row in enumerate(rows):
        for other in row:
            found[other].append(number)
    return found


def finished(rows):
    """Return all numbers in the order in which a walk along the rows is done with them."""
    found = []
    seen = {}
    waiting = list(range(len(rows)))
    while waiting:
        number = waiting.pop()
        if number < 0:
            found.append(-1 - number)
        elif number not in seen:
            seen[number] = True
            # A negative number marks that all that was put on top of it is done.
            waiting.append(-1 - number)
            waiting.extend([other for other in rows[number] if other not in seen])
    return found


def components(rows):
    """Return the greatest sets in which ways lead from each number to each other one."""
    back = backward(rows)
    found = []
    seen = {}
    for start in finished(rows)[::-1]:
        part = []
        waiting = [start]
        while waiting:
            number = waiting.pop()
            if number not in seen:
                seen[number] = True
                part.append(number)
                waiting.extend(back[number])
        if part:
            found.append(sorted(part))
    return found
