"""The written forms of views and claims."""

from manysights.reading import read_whole
from manysights.writing import written


def format_view(view):
    """Return the written form of a view."""
    return written(view.node)


def format_claim(claim):
    """Return the written form of a claim."""
    return written(claim.node)


def parse_view(text):
    """Return the view whose written form the text is."""
    return read_whole("view", text)


def parse_claim(text):
    """Return the claim whose written form the text is."""
    return read_whole("claim", text)
