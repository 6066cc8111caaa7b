"""Reading views, claims and deeds from their written forms.

What is still to be read stands in a list of tasks, the next one last: pairs of
a word for what to read, and what else is to be known for it. So terms can be
nested as deep as a text has room for. What was read and is not used yet stands
in a list, too; each task but a "text" adds one item to it or changes its end.
Names and digits are looked at when something is made of them.
"""

from manysights.claims import Claim
from manysights.deeds import Deed
from manysights.errors import BadText, DealError
from manysights.scanning import Scanner
from manysights.views import View

# What comes behind the first word of each form.
FORMS = {
    "eyes": (("text", "("), ("name", ""), ("text", ")")),
    "value": (("text", "("), ("name", ""), ("text", ")")),
    "whether": (("text", "("), ("claim", ""), ("text", ")")),
    "when": (("text", "("), ("claim", ""), ("text", ", "), ("view", ""), ("text", ")")),
    "worth": (("text", "("), ("name", ""), ("text", ", "), ("view", ""), ("text", ", ["), ("list", "term"),
              ("text", ")")),
    "always": (),
    "known": (("text", "("), ("view", ""), ("text", ", "), ("claim", ""), ("text", ")")),
    "weighs": (("text", "("), ("name", ""), ("text", ", "), ("view", ""), ("text", ", ["), ("list", "term"),
               ("text", ")")),
    "show": (("text", " ["), ("list", "lesson")),
    "announce": (("text", " "), ("view", "")),
    "call": (("text", " "), ("claim", "")),
    "change": (("text", " ["), ("list", "setting")),
    "forget": (("text", " "), ("name", ""), ("text", " "), ("view", "")),
    "row": (("text", " {"), ("list", "deed")),
}
WORDS = {
    "view": ("eyes", "value", "whether", "when", "worth"),
    "claim": ("always", "known", "weighs"),
    "deed": ("show", "announce", "call", "change", "forget", "row"),
}
ITEMS = {
    "term": (("number", ""), ("text", " "), ("claim", ""), ("pair", "")),
    "lesson": (("name", ""), ("text", " "), ("view", ""), ("pair", "")),
    "setting": (("name", ""), ("text", ":"), ("cases", ""), ("pair", "")),
    "case": (("claim", ""), ("text", " -> "), ("source", ""), ("pair", "")),
    "deed": (("deed", ""),),
}
ENDS = {"term": "]", "lesson": "]", "setting": "]", "deed": "}"}
SIGNS = (" & ", " | ")


def made_view(word, given):
    """Return the view of this word from what stands in it."""
    if word == "eyes":
        return View.eyes(given[0])
    if word == "value":
        return View.value(given[0])
    if word == "whether":
        return View.whether(given[0])
    if word == "when":
        return View.when(given[0], given[1])
    return View.worth(given[0], given[2], seen=given[1])


def made_claim(word, given):
    """Return the claim of this word from what stands in it."""
    if word == "always":
        return Claim.always()
    if word == "known":
        return Claim.known(given[0], given[1])
    return Claim.weighs(given[0], given[1], given[2])


def made_deed(word, given):
    """Return the deed of this word from what stands in it."""
    if word == "show":
        return Deed.show(given[0])
    if word == "announce":
        return Deed.announce(given[0])
    if word == "call":
        return Deed.call(given[0])
    if word == "change":
        return Deed.change(given[0])
    if word == "forget":
        return Deed.forget(given[0], given[1])
    return Deed.row(given[0])


def made_form(word, given):
    """Return the view, claim or deed of this word from what stands in it."""
    if word in WORDS["view"]:
        return made_view(word, given)
    if word in WORDS["claim"]:
        return made_claim(word, given)
    return made_deed(word, given)


def made_group(kind, sign, members):
    """Return the group of these views or claims with this sign between them."""
    if kind == "view":
        return View.pooled(members) if sign == " & " else View.common(members)
    return Claim.all_of(members) if sign == " & " else Claim.any_of(members)


class Reader:
    """Reads one view, claim or deed."""

    def __init__(self, text):
        self._scanner = Scanner(text)
        self._tasks = []
        self._found = []

    def _put(self, tasks):
        """Put tasks before all others."""
        self._tasks.extend(list(tasks)[::-1])

    def _begin(self, kind):
        """Begin to read a view, claim or deed."""
        word = self._scanner.next_word()
        if kind == "claim" and self._scanner.take("="):
            self._found.append(Claim.fact(word, self._scanner.next_natural()))
        elif word in WORDS[kind]:
            self._put((*FORMS[word], ("made", word)))
        elif word == "" and kind == "claim" and self._scanner.take("~"):
            self._put((("claim", ""), ("opposite", "")))
        elif word == "" and kind != "deed" and self._scanner.take("("):
            self._found.append([])
            self._put(((kind, ""), ("member", ""), ("group", (kind, SIGNS))))
        else:
            self._scanner.fail()

    def _go_on(self, kind, signs):
        """Go on behind a member of a group; only these signs can come."""
        if len(signs) == 1 and self._scanner.take(")"):
            self._found.append(made_group(kind, signs[0], self._found.pop()))
            return
        coming = [sign for sign in signs if self._scanner.comes(sign)]
        if not coming:
            self._scanner.fail()
        self._scanner.need(coming[0])
        self._put(((kind, ""), ("member", ""), ("group", (kind, coming))))

    def _list(self, item):
        """Begin to read a list of such items, behind what it begins with."""
        self._found.append([])
        if not self._scanner.take(ENDS[item]):
            self._put((*ITEMS[item], ("member", ""), ("rest", item)))

    def _rest(self, item):
        """Go on behind an item of a list."""
        if self._scanner.take("; "):
            self._put((*ITEMS[item], ("member", ""), ("rest", item)))
        else:
            self._scanner.need(ENDS[item])

    def _next_case(self, separator):
        """Read the next case of a setting behind this separator, if one comes."""
        if self._scanner.take(separator):
            self._put((*ITEMS["case"], ("member", ""), ("more cases", "")))

    def _source(self):
        """Return the digit or the name of a source."""
        if self._scanner.peek()[:1].isdigit():
            return self._scanner.next_natural()
        return self._scanner.next_word()

    def _make(self, word):
        """Make a view, claim or deed of what was read last."""
        count = len([what for what, _ in FORMS[word] if what != "text"])
        start = len(self._found) - count
        given = self._found[start:]
        del self._found[start:]
        self._found.append(made_form(word, given))

    def _join(self, what):
        """Put the last items that were read together."""
        last = self._found.pop()
        if what == "opposite":
            self._found.append(~last)
        elif what == "pair":
            self._found.append((self._found.pop(), last))
        else:
            self._found[-1].append(last)

    def _read_list(self, what, detail):
        """Do a task about lists."""
        if what == "list":
            self._list(detail)
        elif what == "rest":
            self._rest(detail)
        elif what == "cases":
            self._found.append([])
            self._next_case(" ")
        else:
            self._next_case(", ")

    def _read_one(self, what):
        """Do a task about a single name or number."""
        if what == "name":
            self._found.append(self._scanner.next_word())
        elif what == "number":
            self._found.append(self._scanner.next_whole())
        else:
            self._found.append(self._source())

    def _do(self, what, detail):
        """Do a task."""
        if what == "text":
            self._scanner.need(detail)
        elif what in WORDS:
            self._begin(what)
        elif what == "made":
            self._make(detail)
        elif what == "group":
            self._go_on(detail[0], detail[1])
        elif what in ("name", "number", "source"):
            self._read_one(what)
        elif what in ("pair", "member", "opposite"):
            self._join(what)
        else:
            self._read_list(what, detail)

    def read(self, kind):
        """Return the view, claim or deed whose written form the text is."""
        self._tasks.append((kind, ""))
        while self._tasks:
            what, detail = self._tasks.pop()
            self._do(what, detail)
        if not self._scanner.is_done():
            self._scanner.fail()
        return self._found[0]


def read_whole(kind, text):
    """Return the view, claim or deed whose written form the text is, or raise BadText."""
    reader = Reader(text)
    try:
        return reader.read(kind)
    except DealError:
        raise BadText(text) from None
