"""The written forms of views, claims and deeds."""

from manysights.forms import inner_first
from manysights.numerals import decimal

SIGNS = {"pooled": " & ", "and": " & ", "common": " | ", "or": " | "}


def written_terms(numbers, texts):
    """Return the written form of terms, from their numbers and the texts of their claims."""
    return "[" + "; ".join([f"{decimal(number)} {text}" for number, text in zip(numbers, texts)]) + "]"


def written_setting(fact, sources, texts):
    """Return the written form of a setting, from the texts of its claims."""
    cases = ", ".join([f"{text} -> {source}" for source, text in zip(sources, texts)])
    return f"{fact}: {cases}" if cases else f"{fact}:"


def written_change(settings, texts):
    """Return the written form of a change, from the texts of all its claims."""
    found = []
    place = 0
    for fact, sources in settings:
        end = place + len(sources)
        found.append(written_setting(fact, sources, texts[place:end]))
        place = end
    return "change [" + "; ".join(found) + "]"


def written_deed(label, texts):
    """Return the written form of a deed with this label, from the texts of what stands in it."""
    word = label[0]
    if word == "show":
        return "show [" + "; ".join([f"{party} {text}" for party, text in zip(label[1], texts)]) + "]"
    if word == "change":
        return written_change(label[1], texts)
    if word == "forget":
        return f"forget {label[1]} {texts[0]}"
    if word == "row":
        return "row {" + "; ".join(texts) + "}"
    return f"{word} {texts[0]}"


def written_form(label, texts):
    """Return the written form of a node with this label, from the texts of what stands in it."""
    word = label[0]
    if word in SIGNS:
        return "(" + SIGNS[word].join(texts) + ")"
    if word == "always":
        return word
    if word == "fact":
        return f"{label[1]}={label[2]}"
    if word == "not":
        return "~" + texts[0]
    if word in ("eyes", "value"):
        return f"{word}({label[1]})"
    if word in ("whether", "when", "known"):
        return word + "(" + ", ".join(texts) + ")"
    if word in ("worth", "weighs"):
        return f"{word}({label[1]}, {texts[0]}, {written_terms(label[2], texts[1:])})"
    return written_deed(label, texts)


def written(node):
    """Return the written form of a view, claim or deed."""
    found = {}
    for inner in inner_first((node,)):
        found[inner] = written_form(inner.label, [found[member] for member in inner.inner])
    return found[node]
