"""Greatest flows, by themselves: every place keeps nothing, and some cut is full."""

import random
import time
import unittest

from manysights.cutting import Pipes


def filled(count, pipes):
    """Return filled pipes from the place 0 to the place 1, and the room that they had."""
    made = Pipes(count)
    for one, two, there, back in pipes:
        made.connect(one, two, there, back)
    full = list(made.room)
    made.fill(0, 1)
    return made, full


class CuttingTest(unittest.TestCase):
    def check(self, count, pipes):
        """Check that what flows is a flow and that no greater one is possible, and return its amount."""
        made, full = filled(count, pipes)
        kept = [0] * count
        for pipe, goal in enumerate(made.heads):
            self.assertGreaterEqual(made.room[pipe], 0)
            self.assertEqual(made.room[pipe] + made.room[pipe ^ 1], full[pipe] + full[pipe ^ 1])
            kept[goal] += full[pipe] - made.room[pipe]
        self.assertFalse(any(kept[2:]))
        self.assertEqual(kept[0], -kept[1])
        reached = made.reached_from(0)
        self.assertNotIn(1, reached)
        cut = sum(most for one, two, there, back in pipes for start, goal, most in ((one, two, there), (two, one, back))
                  if start in reached and goal not in reached)
        self.assertEqual(cut, kept[1])
        return kept[1]

    def test_examples(self):
        self.assertEqual(self.check(2, []), 0)
        self.assertEqual(self.check(3, [(0, 2, 5, 0), (2, 1, 3, 0)]), 3)
        self.assertEqual(self.check(4, [(0, 2, 5, 0), (2, 3, 2, 2), (3, 1, 9, 0)]), 2)
        self.assertEqual(self.check(4, [(0, 2, 5, 0), (3, 2, 2, 0), (3, 1, 9, 0)]), 0)

    def test_random(self):
        chance = random.Random(5)
        for _ in range(500):
            count = chance.randint(2, 12)
            pipes = []
            for place in range(2, count):
                pipes.append((0, place, chance.randint(0, 9), 0))
                pipes.append((place, 1, chance.randint(0, 9), 0))
            for _ in range(chance.randint(0, 20) if count > 3 else 0):
                one, two = chance.sample(range(2, count), 2)
                pipes.append((one, two, chance.randint(0, 9), chance.randint(0, 9)))
            self.check(count, chance.sample(pipes, len(pipes)))

    def test_large_ones(self):
        start = time.time()
        chance = random.Random(6)
        for count, most in ((4000, 10**9), (4000, 3), (8000, 5000)):
            pipes = []
            for place in range(2, count):
                pull = chance.randint(-1000, 1000)
                pipes.append((0, place, max(pull, 0), 0))
                pipes.append((place, 1, max(-pull, 0), 0))
                if place > 2:
                    pipes.append((place - 1, place, most, most))
            self.check(count, pipes)
        ends = [(0, place, 1, 0) if place < 4000 else (place, 1, 1, 0) for place in range(2, 8000)]
        self.assertEqual(self.check(8000, ends + [(place, place + 1, 9999, 9999) for place in range(2, 7999)]), 3998)
        wide = [(0, place, 7, 0) for place in range(2, 900)] + [(place, 1, 7, 0) for place in range(900, 1800)]
        wide += [(place, chance.randrange(2, 1800), 5, 5) for place in range(2, 1800) for _ in range(4)]
        self.check(1800, [pipe for pipe in wide if pipe[0] != pipe[1]])
        self.assertLess(time.time() - start, 30)


if __name__ == "__main__":
    unittest.main()
