"""The greatest flow from one place to another through pipes that carry at most so much.

What a place was given and could not pass on yet waits there. It always moves
on to a place that is one step nearer to the goal, from the farthest places
first, so that much of it moves at once. A place from which nothing gets nearer
becomes farther itself. When nothing that waits can reach the goal any more,
all of it goes back to where it came from, in the same way.
"""


class Pipes:
    """Places that are joined by pipes.

    The pipe with number k has room for `room[k]` more to `heads[k]`; the one
    with number k ^ 1 is the same pipe in the other direction.
    """

    def __init__(self, count):
        self.heads = []
        self.room = []
        self.rows = [[] for _ in range(count)]
        self._waiting = [0] * count
        self._far = [0] * count
        self._counts = [0] * (count + 1)
        self._looked = [0] * count
        self._layers = []
        self._top = 0
        self._moved = 0

    def connect(self, one, two, there, back):
        """Add a pipe that carries at most so much there and so much back."""
        for start, goal, most in ((one, two, there), (two, one, back)):
            self.rows[start].append(len(self.heads))
            self.heads.append(goal)
            self.room.append(most)

    def reached_from(self, start):
        """Return all places to which something more could go from this one, as keys."""
        found = {start: True}
        waiting = [start]
        while waiting:
            place = waiting.pop()
            for pipe in self.rows[place]:
                if self.room[pipe] > 0 and self.heads[pipe] not in found:
                    found[self.heads[pipe]] = True
                    waiting.append(self.heads[pipe])
        return found

    def _measure(self, goal, other):
        """Find how many steps each place is from the goal, not through the other end."""
        count = len(self.rows)
        far = [count] * count
        far[goal] = 0
        order = [goal]
        place = 0
        while place < len(order):
            here = order[place]
            place += 1
            for pipe in self.rows[here]:
                start = self.heads[pipe]
                if far[start] == count and start != other and self.room[pipe ^ 1] > 0:
                    far[start] = far[here] + 1
                    order.append(start)
        self._far = far
        self._counts = [0] * (count + 1)
        for steps in far:
            self._counts[steps] += 1
        return order[1:]

    def _line_up(self, goal, other):
        """Measure all distances, and list the places where something waits by them."""
        places = self._measure(goal, other)
        self._looked = [0] * len(self.rows)
        self._layers = [[] for _ in self.rows]
        self._top = 0
        self._moved = 0
        for place in places:
            if self._waiting[place] > 0:
                self._enlist(place)

    def _enlist(self, place):
        """List a place where something waits."""
        steps = self._far[place]
        self._layers[steps].append(place)
        self._top = max(self._top, steps)

    def _retreat(self, place):
        """Make a place as far as its nearest neighbour allows; out of reach has the number of places."""
        count = len(self.rows)
        steps = self._far[place]
        near = [self._far[self.heads[pipe]] for pipe in self.rows[place] if self.room[pipe] > 0]
        self._counts[steps] -= 1
        # If no other place is at this distance, nothing farther reaches the goal.
        self._far[place] = min([count] + [other + 1 for other in near]) if self._counts[steps] > 0 else count
        self._counts[self._far[place]] += 1
        self._looked[place] = 0
        self._moved += 1

    def _push(self, place, pipe, goal):
        """Move as much as the pipe has room for."""
        other = self.heads[pipe]
        amount = min(self._waiting[place], self.room[pipe])
        self.room[pipe] -= amount
        self.room[pipe ^ 1] += amount
        self._waiting[place] -= amount
        if self._waiting[other] == 0 and other != goal:
            self._enlist(other)
        self._waiting[other] += amount

    def _pass_on(self, place, goal):
        """Move on all that waits at a place, as long as the goal can be reached."""
        row = self.rows[place]
        while self._waiting[place] > 0 and self._far[place] < len(self.rows):
            if self._looked[place] == len(row):
                self._retreat(place)
            else:
                pipe = row[self._looked[place]]
                if self.room[pipe] > 0 and self._far[self.heads[pipe]] == self._far[place] - 1:
                    self._push(place, pipe, goal)
                else:
                    self._looked[place] += 1

    def _move_all(self, goal, other):
        """Move all that waits to the goal, as far as it can get there."""
        self._line_up(goal, other)
        while self._top >= 0:
            if not self._layers[self._top]:
                self._top -= 1
                continue
            place = self._layers[self._top].pop()
            self._pass_on(place, goal)
            if 2 * self._moved > len(self.rows):
                self._line_up(goal, other)

    def fill(self, source, goal):
        """Let as much as possible flow from the source to the goal."""
        for pipe in self.rows[source]:
            amount = self.room[pipe]
            self.room[pipe] = 0
            self.room[pipe ^ 1] += amount
            self._waiting[self.heads[pipe]] += amount
        self._move_all(goal, source)
        self._move_all(source, goal)
