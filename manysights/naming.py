"""The names in views, claims and deeds, and what a standing says of them."""

from manysights.errors import UnknownFact, UnknownParty
from manysights.forms import Node

PARTY = 0
FACT = 1


def lesson_entries(node):
    """Return the parties and the views of a show, in order."""
    found = []
    for party, view in zip(node.label[1], node.inner):
        found.append((PARTY, party))
        found.append(view)
    return found


def setting_entries(node):
    """Return the facts, claims and sources of a change, in order."""
    found = []
    place = 0
    for fact, sources in node.label[1]:
        found.append((FACT, fact))
        for source in sources:
            found.append(node.inner[place])
            place += 1
            if isinstance(source, str):
                found.append((FACT, source))
    return found


def entries_of(node):
    """Return the names and nodes that stand in a node, in the order of its written form."""
    word = node.label[0]
    if word in ("eyes", "worth", "weighs", "forget"):
        return [(PARTY, node.label[1]), *node.inner]
    if word in ("value", "fact"):
        return [(FACT, node.label[1])]
    if word == "show":
        return lesson_entries(node)
    if word == "change":
        return setting_entries(node)
    return list(node.inner)


def names_of(nodes):
    """Return pairs of PARTY or FACT and a name, in the order of the written forms.

    What stands in several places is looked at in the first one only.
    """
    found = []
    seen = {}
    waiting = list(nodes)[::-1]
    while waiting:
        entry = waiting.pop()
        if not isinstance(entry, Node):
            found.append(entry)
        elif entry not in seen:
            seen[entry] = True
            waiting.extend(entries_of(entry)[::-1])
    return found


def parties_of(nodes):
    """Return the names of the parties, each once, in ascending order."""
    return tuple(sorted(set([name for kind, name in names_of(nodes) if kind == PARTY])))


def facts_of(nodes):
    """Return the names of the facts, each once, in ascending order."""
    return tuple(sorted(set([name for kind, name in names_of(nodes) if kind == FACT])))


def check_party(standing, name):
    """Raise UnknownParty if the standing has no such party."""
    if name not in standing.parties:
        raise UnknownParty(name)


def check_names(standing, nodes):
    """Raise an error for the first name in the nodes that the standing lacks."""
    for kind, name in names_of(nodes):
        if kind == PARTY:
            check_party(standing, name)
        elif name not in standing.facts:
            raise UnknownFact(name)


def has_names(standing, nodes):
    """Tell whether the standing has all names in the nodes."""
    facts = all([name in standing.facts for name in facts_of(nodes)])
    return facts and all([name in standing.parties for name in parties_of(nodes)])
