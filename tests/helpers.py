"""What several tests use: other values, plain counterparts and checks of form."""

from manysights.errors import DealError
from manysights.standings import Standing

NO_NAMES = ("", "A", "1a", "a b", "aB", "abcdefghi", "a-b", "a\n", " a", "a ", "_a", "a.b", "z~")
NAMES = ("a", "z", "a1", "abcdefgh", "a0000009", "x9y8z7")
NO_DIGITS = (True, False, None, "1", "", -1, 10, 10**30, -(10**30), 1.0, (1,), [1], {}, b"1")
NO_WEIGHTS = (True, False, None, "1", 0, -1, -(10**30), 1.5, (1,), [1], {}, b"1")
NO_COUNTS = (True, False, None, "3", 0, -1, 2001, 10**30, -(10**30), 2.0, (1,), [1], {}, b"1")


def error_of(call, *given, **named):
    """Return the error that the call raises, or None."""
    try:
        call(*given, **named)
    except DealError as error:
        return error
    return None


class Fails:
    """A part of test cases: checks of errors and of tuples."""

    def assert_error(self, kind, fields, call, *given, **named):
        """Check that the call raises exactly this error with these fields."""
        error = error_of(call, *given, **named)
        self.assertIs(error.__class__, kind, f"{error!r}")
        for name, value in fields.items():
            self.assertEqual(getattr(error, name), value)

    def assert_tuples(self, value):
        """Check that there is no list at any level."""
        self.assertNotIsInstance(value, list)
        if isinstance(value, tuple):
            for item in value:
                self.assert_tuples(item)


def canonical(marks):
    """Return marks as point 7 numbers them."""
    return tuple(sorted(set(marks), key=list(marks).index).index(mark) for mark in marks)


def every_marks(size):
    """Return the marks of all sights of a size, in ascending order, found in another way."""
    rows = [()]
    for _ in range(size):
        rows = [row + (mark,) for row in rows for mark in range(max(row, default=-1) + 2)]
    return rows


def joined(rows, size):
    """Return for each pair whether a chain leads from one to the other (a plain closure)."""
    near = [[any(row[i] == row[j] for row in rows) or i == j for j in range(size)] for i in range(size)]
    for k in range(size):
        for i in range(size):
            if near[i][k]:
                near[i] = [one or two for one, two in zip(near[i], near[k])]
    return near


def marks_of_near(near):
    """Return marks from a table of which deals are alike."""
    return tuple(canonical([row.index(True) for row in near]))


def random_standing(random, *, most=7, parties="abc", facts="fg", gaps=True, weights=True):
    """Return a standing of random sights, digits and weights."""
    count = random.randint(1, most)
    standing = Standing(count + (2 if gaps else 0))
    for name in facts:
        standing = standing.with_fact(name, [random.randint(0, 2) for _ in standing])
    for name in parties:
        marks = [random.randint(0, count) for _ in standing]
        heavy = [random.randint(1, 4) for _ in standing] if weights else None
        standing = standing.with_party(name, marks, weights=heavy)
    return standing.only(sorted(random.sample(list(standing), count)))
