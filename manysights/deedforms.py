"""The written forms of deeds."""

from manysights.reading import read_whole
from manysights.writing import written


def format_deed(deed):
    """Return the written form of a deed."""
    return written(deed.node)


def parse_deed(text):
    """Return the deed whose written form the text is."""
    return read_whole("deed", text)
