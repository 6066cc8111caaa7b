"""The names in views and claims, and what a standing says of them."""

from manysights.errors import UnknownFact, UnknownParty

PARTY = 0
FACT = 1


def children_of(parts):
    """Return the parts that stand in a view or claim, in the order of its written form."""
    word = parts[0]
    if word in ("whether", "not"):
        return (parts[1],)
    if word in ("when", "known"):
        return (parts[1], parts[2])
    if word in ("worth", "weighs"):
        claims = [claim for _, claim in parts[3]]
        return (parts[2], *claims)
    if word in ("pooled", "common", "and", "or"):
        return parts[1]
    return ()


def names_of(parts):
    """Return pairs of PARTY or FACT and a name, in the order of the written form."""
    found = []
    waiting = [parts]
    while waiting:
        inner = waiting.pop()
        if inner[0] in ("eyes", "worth", "weighs"):
            found.append((PARTY, inner[1]))
        if inner[0] in ("value", "fact"):
            found.append((FACT, inner[1]))
        waiting.extend(children_of(inner)[::-1])
    return found


def parties_of(parts):
    """Return the names of the parties, each once, in ascending order."""
    return tuple(sorted(set([name for kind, name in names_of(parts) if kind == PARTY])))


def facts_of(parts):
    """Return the names of the facts, each once, in ascending order."""
    return tuple(sorted(set([name for kind, name in names_of(parts) if kind == FACT])))


def check_party(standing, name):
    """Raise UnknownParty if the standing has no such party."""
    if name not in standing.parties:
        raise UnknownParty(name)


def check_names(standing, parts):
    """Raise an error for the first name in a view or claim that the standing lacks."""
    for kind, name in names_of(parts):
        if kind == PARTY:
            check_party(standing, name)
        elif name not in standing.facts:
            raise UnknownFact(name)
