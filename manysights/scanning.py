"""Going through a text from its beginning to its end."""

from manysights.checks import DIGITS, LETTERS
from manysights.errors import BadText
from manysights.numerals import natural


class Scanner:
    """A text and the place up to which it was read; what is wrong there raises BadText."""

    def __init__(self, text):
        self._text = text
        self._place = 0

    def fail(self):
        """Raise BadText."""
        raise BadText(self._text)

    def is_done(self):
        """Tell whether the whole text was read."""
        return self._place == len(self._text)

    def comes(self, text):
        """Tell whether this text comes next."""
        return self._text.startswith(text, self._place)

    def take(self, text):
        """Read this text if it comes next, and tell whether it does."""
        if not self.comes(text):
            return False
        self._place += len(text)
        return True

    def need(self, text):
        """Read this text, which must come next."""
        if not self.take(text):
            self.fail()

    def peek(self):
        """Return the letters and digits that come next."""
        end = self._place
        while end < len(self._text) and (self._text[end] in LETTERS or self._text[end] in DIGITS):
            end += 1
        return self._text[self._place:end]

    def next_word(self):
        """Read the letters and digits that come next."""
        word = self.peek()
        self._place += len(word)
        return word

    def next_natural(self):
        """Read a whole number of at least 0."""
        number = natural(self.next_word())
        if number is None:
            self.fail()
        return number

    def next_whole(self):
        """Read a whole number."""
        if not self.take("-"):
            return self.next_natural()
        number = self.next_natural()
        if number == 0:
            self.fail()
        return -number
