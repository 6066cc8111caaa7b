"""All errors of the program, each with its fields."""


class DealError(ValueError):
    """The base class of all errors of the program."""


class NoDeals(DealError):
    """No deal is listed."""


class SizesDiffer(DealError):
    """Two sights have different sizes."""

    def __init__(self, one, two):
        self.one = one
        self.two = two


class BadCount(DealError):
    """The number of deals is not a whole number from 1 to 2000."""

    def __init__(self, count):
        self.count = count


class BadName(DealError):
    """The string is not a name."""

    def __init__(self, name):
        self.name = name


class TakenName(DealError):
    """The name is used already."""

    def __init__(self, name):
        self.name = name


class BadLength(DealError):
    """A sequence has the wrong number of items."""

    def __init__(self, count):
        self.count = count


class BadDigit(DealError):
    """The item with this index is not a digit."""

    def __init__(self, index):
        self.index = index


class BadWeight(DealError):
    """The item with this index is not a weight."""

    def __init__(self, index):
        self.index = index


class UnknownName(DealError):
    """The base class of the errors about names that a standing lacks."""

    def __init__(self, name):
        self.name = name


class UnknownParty(UnknownName):
    """The standing has no party of this name."""


class UnknownFact(UnknownName):
    """The standing has no fact of this name."""


class UnknownDeal(DealError):
    """The deal is not open."""

    def __init__(self, deal):
        self.deal = deal


class NoViews(DealError):
    """No view is listed."""


class NotGrounded(DealError):
    """The view with this index is not grounded."""

    def __init__(self, index):
        self.index = index


class NotPlain(DealError):
    """A view or deed is not plain."""


class NotFactClaim(DealError):
    """A claim is not a fact claim."""


class BadSource(DealError):
    """A source in the setting with this index is neither a digit nor a name."""

    def __init__(self, index):
        self.index = index


class NotPossible(DealError):
    """The deed with this index cannot be done."""

    def __init__(self, index):
        self.index = index


class TooManyDeeds(DealError):
    """A ledger keeps more deeds than this number, or would."""

    def __init__(self, number):
        self.number = number


class NothingToUndo(DealError):
    """No deed can be taken back."""


class Stopped(DealError):
    """A step stopped the steps."""

    def __init__(self, number):
        self.number = number


class NotOnePiece(DealError):
    """The standing is not one piece."""


class TooManyStates(DealError):
    """More states than this limit can be reached."""

    def __init__(self, limit):
        self.limit = limit


class BadMove(DealError):
    """The number at this place is not an index of the menu."""

    def __init__(self, place):
        self.place = place


class HasCall(DealError):
    """The deed with this index is a call or has one in it."""

    def __init__(self, index):
        self.index = index


class NoSpeakers(DealError):
    """No speaker is listed."""


class NoWeights(DealError):
    """No weights keep all bounds."""


class BadAct(DealError):
    """The act with this index has an item that is not a whole number."""

    def __init__(self, index):
        self.index = index


class NoActs(DealError):
    """No act is listed."""


class BadNote(DealError):
    """The amount of the note with this index is wrong."""

    def __init__(self, index):
        self.index = index


class BadPurse(DealError):
    """The number of the purse with this index is wrong."""

    def __init__(self, index):
        self.index = index


class BadText(DealError):
    """The text is not a written form."""

    def __init__(self, text):
        self.text = text


class BadLine(DealError):
    """The line with this index cannot stand there in a written form."""

    def __init__(self, line):
        self.line = line
