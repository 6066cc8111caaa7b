"""The written forms of standings, also together with deeds."""

from manysights.checks import DIGITS, is_name
from manysights.deedforms import format_deed, parse_deed
from manysights.errors import BadLine, BadText
from manysights.numerals import decimal, naturals
from manysights.sights import Sight
from manysights.standings import made_standing


def line_of(words, numbers):
    """Return a line of words and numbers."""
    return " ".join(words + [decimal(number) for number in numbers])


def standing_lines(standing):
    """Return the lines of the written form of a standing."""
    lines = [line_of(["deals"], standing.deals)]
    for name in standing.facts:
        lines.append(line_of(["fact", name], standing.digits(name)))
    for name in standing.parties:
        marks = line_of(["party", name], standing.sight(name).marks)
        lines.append(line_of([marks, "weights"], standing.weights(name)))
    return lines


def format_standing(standing):
    """Return the written form of a standing."""
    return "\n".join(standing_lines(standing))


def format_table(standing, deeds):
    """Return the written form of a standing and deeds together."""
    return "\n".join(standing_lines(standing) + [f"do {format_deed(deed)}" for deed in deeds])


def deals_in(line):
    """Return the deals of the first line of a standing, or None."""
    words = line.split(" ")
    if words[0] != "deals" or len(words) < 2:
        return None
    deals = naturals(words[1:])
    if deals is None or not all([one < two for one, two in zip(deals, deals[1:])]):
        return None
    return deals


def fact_in(line, count, facts):
    """Return the name and the digits of the fact that the line is, or None; the facts stand there before."""
    words = line.split(" ")
    if len(words) != count + 2 or words[0] != "fact" or not is_name(words[1]):
        return None
    if words[1] in [row[0] for row in facts]:
        return None
    if not all([len(word) == 1 and word in DIGITS for word in words[2:]]):
        return None
    return (words[1], tuple([int(word) for word in words[2:]]))


def party_in(line, count, parties):
    """Return name, sight and weights of the party that the line is, or None; the parties stand there before."""
    words = line.split(" ")
    if len(words) != 2 * count + 3 or words[0] != "party" or not is_name(words[1]):
        return None
    if words[count + 2] != "weights" or words[1] in [row[0] for row in parties]:
        return None
    marks, weights = naturals(words[2:count + 2]), naturals(words[count + 3:])
    if marks is None or weights is None or min(weights) < 1:
        return None
    sight = Sight(marks)
    return (words[1], sight, tuple(weights)) if list(sight.marks) == marks else None


def standing_in(lines):
    """Return the standing that the first lines are, and the number of these lines."""
    deals = deals_in(lines[0])
    if deals is None:
        raise BadLine(0)
    facts, parties = [], []
    for line in lines[1:]:
        fact = None if parties else fact_in(line, len(deals), facts)
        party = party_in(line, len(deals), parties)
        if fact is not None:
            facts.append(fact)
        elif party is not None:
            parties.append(party)
        else:
            break
    return (made_standing(deals, facts, parties), 1 + len(facts) + len(parties))


def parse_standing(text):
    """Return the standing whose written form the text is."""
    lines = text.split("\n")
    standing, count = standing_in(lines)
    if count < len(lines):
        raise BadLine(count)
    return standing


def deed_in(line):
    """Return the deed that the line does, or None."""
    try:
        return parse_deed(line[3:]) if line.startswith("do ") else None
    except BadText:
        return None


def parse_table(text):
    """Return the standing and the deeds whose written form the text is."""
    lines = text.split("\n")
    standing, count = standing_in(lines)
    deeds = []
    for index in range(count, len(lines)):
        deed = deed_in(lines[index])
        if deed is None:
            raise BadLine(index)
        deeds.append(deed)
    return (standing, tuple(deeds))
