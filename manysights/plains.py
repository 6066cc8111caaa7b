"""Plain views: views that are made of eyes by pooled and common alone."""

from manysights.errors import NotPlain


def is_plain(parts):
    """Tell whether the view is plain."""
    waiting = [parts]
    while waiting:
        inner = waiting.pop()
        if inner[0] in ("pooled", "common"):
            waiting.extend(inner[1])
        elif inner[0] != "eyes":
            return False
    return True


def check_plain(views):
    """Raise NotPlain if one of the views is not plain."""
    for view in views:
        if not is_plain(view.parts):
            raise NotPlain()


def combined(word, sights):
    """Return what the sights tell together if the word is pooled, or what is common to them."""
    sight = sights[0]
    for other in sights[1:]:
        sight = sight & other if word == "pooled" else sight | other
    return sight


def plain_sight(parts, sights):
    """Return the sight that a plain view means if the parties have these sights."""
    if parts[0] == "eyes":
        return sights[parts[1]]
    return combined(parts[0], [plain_sight(member, sights) for member in parts[1]])


def plain_text(parts):
    """Return the written form of a plain view."""
    if parts[0] == "eyes":
        return f"eyes({parts[1]})"
    texts = [plain_text(member) for member in parts[1]]
    if parts[0] == "pooled":
        return "(" + " & ".join(texts) + ")"
    return "(" + " | ".join(texts) + ")"


class Plains:
    """Plain views under numbers; equal views have the same number.

    The row of a number is the word of the view and what stands in it: the
    party, or the tuple of the numbers of the members.
    """

    def __init__(self):
        self.rows = []
        self._numbers = {}

    def number_of(self, parts):
        """Return the number of a view, a new one if it is new."""
        if parts[0] == "eyes":
            return self.number_of_row(parts)
        members = [self.number_of(member) for member in parts[1]]
        return self.number_of_row((parts[0], tuple(members)))

    def number_of_row(self, row):
        """Return the number of the view with this row, a new one if it is new."""
        if row not in self._numbers:
            self._numbers[row] = len(self.rows)
            self.rows.append(row)
        return self._numbers[row]

    def parts_of(self, number):
        """Return the parts of the view with this number."""
        word, inside = self.rows[number]
        if word == "eyes":
            return (word, inside)
        return (word, tuple([self.parts_of(member) for member in inside]))

    def inside_of(self, number):
        """Return the numbers of the view and of all views in it, each once."""
        found = {number: True}
        waiting = [number]
        while waiting:
            word, inside = self.rows[waiting.pop()]
            if word != "eyes":
                waiting.extend([member for member in inside if member not in found])
                found.update({member: True for member in inside})
        return list(found)
