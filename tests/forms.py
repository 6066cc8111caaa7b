"""Plain counterparts of the written forms, by the tables of points 107 to 113, and spoilt texts."""

import re

from manysights.errors import DealError
from manysights.standings import Standing
from tests.helpers import claim_from, deed_from, view_from

JOINED = {"pooled": " & ", "common": " | ", "and": " & ", "or": " | "}


def form_of(parts):
    """Return the written form of a view, claim or deed, given by its parts."""
    word = parts[0]
    if word in JOINED:
        return "(" + JOINED[word].join(form_of(inner) for inner in parts[1]) + ")"
    if word in ("eyes", "value"):
        return word + "(" + parts[1] + ")"
    if word in ("worth", "weighs"):
        terms = "; ".join(f"{number} {form_of(claim)}" for number, claim in parts[3])
        return f"{word}({parts[1]}, {form_of(parts[2])}, [{terms}])"
    if word in ("whether", "when", "known"):
        return word + "(" + ", ".join(form_of(inner) for inner in parts[1:]) + ")"
    if word == "always":
        return "always"
    if word == "fact":
        return f"{parts[1]}={parts[2]}"
    if word == "not":
        return "~" + form_of(parts[1])
    if word == "show":
        return "show [" + "; ".join(f"{party} {form_of(view)}" for party, view in parts[1]) + "]"
    if word in ("announce", "call"):
        return f"{word} {form_of(parts[1])}"
    if word == "change":
        settings = []
        for fact, cases in parts[1]:
            told = ", ".join(f"{form_of(claim)} -> {source}" for claim, source in cases)
            settings.append(f"{fact}:{' ' + told if cases else ''}")
        return "change [" + "; ".join(settings) + "]"
    if word == "forget":
        return f"forget {parts[1]} {form_of(parts[2])}"
    return "row {" + "; ".join(form_of(deed) for deed in parts[1]) + "}"


class Wrong(Exception):
    """The text is not a written form."""


class PlainReader:
    """Reads parts from a text that may be written too freely: the form of the parts tells whether it was."""

    def __init__(self, text):
        self.tokens = re.findall(r"-?[a-z0-9]+|->|[^\sa-z0-9]", text)
        self.place = 0

    def peek(self):
        """Return the next token."""
        return self.tokens[self.place] if self.place < len(self.tokens) else ""

    def next(self):
        """Go on by one token and return it."""
        self.place += 1
        return self.tokens[self.place - 1] if self.place <= len(self.tokens) else ""

    def need(self, token):
        """Go on over this token."""
        if self.next() != token:
            raise Wrong()

    def number(self):
        """Return the next token as a number."""
        token = self.next()
        if not re.fullmatch("-?[0-9]+", token):
            raise Wrong()
        return int(token)

    def group(self, read, words):
        """Return the parts of a group, behind its bracket."""
        members, sign = [read()], self.peek()
        while self.peek() == sign and sign in "&|":
            self.next()
            members.append(read())
        self.need(")")
        if sign not in ("&", "|"):
            raise Wrong()
        return (words["&|".index(sign)], tuple(members))

    def terms(self):
        """Return terms with their brackets."""
        return self.rows("[", "]", lambda: (self.number(), self.claim()))

    def rows(self, start, end, read):
        """Return rows between brackets."""
        self.need(start)
        found = []
        while self.peek() != end:
            if found:
                self.need(";")
            found.append(read())
        self.need(end)
        return tuple(found)

    def view(self):
        """Return the parts of the view that comes next."""
        word = self.next()
        if word == "(":
            return self.group(self.view, ("pooled", "common"))
        if word not in ("eyes", "value", "whether", "when", "worth"):
            raise Wrong()
        self.need("(")
        parts = [word]
        if word in ("eyes", "value", "worth"):
            parts.append(self.next())
        else:
            parts.append(self.claim())
        if word in ("when", "worth"):
            self.need(",")
            parts.append(self.view())
        if word == "worth":
            self.need(",")
            parts.append(self.terms())
        self.need(")")
        return tuple(parts)

    def claim(self):
        """Return the parts of the claim that comes next."""
        word = self.next()
        if word == "(":
            return self.group(self.claim, ("and", "or"))
        if word == "~":
            return ("not", self.claim())
        if self.peek() == "=":
            self.next()
            return ("fact", word, self.number())
        if word == "always":
            return ("always",)
        if word not in ("known", "weighs"):
            raise Wrong()
        self.need("(")
        parts = [word]
        if word == "weighs":
            parts.append(self.next())
            self.need(",")
        parts.append(self.view())
        self.need(",")
        parts.append(self.claim() if word == "known" else self.terms())
        self.need(")")
        return tuple(parts)

    def setting(self):
        """Return the setting that comes next."""
        fact, cases = self.next(), []
        self.need(":")
        while self.peek() not in (";", "]"):
            if cases:
                self.need(",")
            claim = self.claim()
            self.need("->")
            source = self.next()
            cases.append((claim, int(source) if source[:1].isdigit() and source.isdigit() else source))
        return fact, tuple(cases)

    def deed(self):
        """Return the parts of the deed that comes next."""
        word = self.next()
        if word == "show":
            return (word, self.rows("[", "]", lambda: (self.next(), self.view())))
        if word == "announce":
            return (word, self.view())
        if word == "call":
            return (word, self.claim())
        if word == "change":
            return (word, self.rows("[", "]", self.setting))
        if word == "forget":
            return (word, self.next(), self.view())
        if word != "row":
            raise Wrong()
        return (word, self.rows("{", "}", self.deed))


MAKERS = {"view": view_from, "claim": claim_from, "deed": deed_from}


def plain_read(kind, text):
    """Return the view, claim or deed whose written form the text is, or None."""
    reader = PlainReader(text)
    try:
        parts = {"view": reader.view, "claim": reader.claim, "deed": reader.deed}[kind]()
        made = MAKERS[kind](parts)
    except (Wrong, DealError):
        return None
    return made if made.parts == parts and form_of(parts) == text else None


def standing_form(standing):
    """Return the written form of a standing, by the words of point 111."""
    lines = ["deals " + " ".join(map(str, standing.deals))]
    lines += [f"fact {name} " + " ".join(map(str, standing.digits(name))) for name in standing.facts]
    lines += [f"party {name} " + " ".join(map(str, standing.sight(name).marks)) + " weights "
              + " ".join(map(str, standing.weights(name))) for name in standing.parties]
    return "\n".join(lines)


def plain_standing(text):
    """Return the standing whose written form the text is, or None; its deals are less than 2000."""
    try:
        made = None
        for line in text.split("\n"):
            words = line.split()
            if made is None and words[0] == "deals":
                made = Standing(2000).only([int(word) for word in words[1:]])
            elif words[0] == "fact":
                made = made.with_fact(words[1], [int(word) for word in words[2:]])
            elif words[0] == "party":
                place = len(words) - words[::-1].index("weights") - 1
                marks, weights = words[2:place], words[place + 1:]
                made = made.with_party(words[1], list(map(int, marks)), weights=list(map(int, weights)))
            else:
                return None
    except (ValueError, IndexError, AttributeError):
        return None
    return made if standing_form(made) == text else None


def first_bad_line(is_form, text):
    """Return the index of the first line that cannot stand after those before it, or None.

    The lines before any line of a written form are a written form, too.
    """
    lines = text.split("\n")
    for index in range(len(lines)):
        if not is_form("\n".join(lines[:index + 1])):
            return index
    return None


def spoilt_texts(text, chance, count):
    """Yield texts with one thing changed at some place."""
    pieces = [" ", "0", "-", "(", ")", "[", "]", "{", "}", ";", ",", "; ", ", ", "&", "|", "~", "=", ":", "->", "a", "z",
              "1", "9", "\n", " & ", " | ", "always", "eyes", "f=1", "A", "_", "row {}", "(f=1)", " -> "]
    for _ in range(count):
        place = chance.randrange(len(text) + 1)
        end = min(len(text), place + chance.choice([1, 1, 1, 2, 3]))
        kind = chance.randint(0, 5)
        if kind == 0:
            yield text[:place] + text[end:]
        elif kind == 1:
            yield text[:place] + chance.choice(pieces) + text[place:]
        elif kind == 2:
            yield text[:place] + chance.choice(pieces) + text[end:]
        elif kind == 3:
            yield text[:end] + text[place:]
        elif kind == 4:
            yield text[:place] + text[place:end][::-1] + text[end:]
        else:
            yield chance.choice([text + "\n", text + " ", " " + text, "\n" + text, text + text, "", text[::-1]])


def spoilt_lines(text, chance, count):
    """Yield texts in which lines are left out, doubled, moved or empty."""
    for _ in range(count):
        lines = text.split("\n")
        one, two = chance.randrange(len(lines)), chance.randrange(len(lines))
        kind = chance.randint(0, 4)
        if kind == 0:
            del lines[one]
        elif kind == 1:
            lines.insert(two, lines[one])
        elif kind == 2:
            lines[one], lines[two] = lines[two], lines[one]
        elif kind == 3:
            lines.insert(one, "")
        else:
            lines.append("")
        yield "\n".join(lines)
