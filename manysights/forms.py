"""Nodes: what views, claims and deeds are made of.

The same node can stand in many places. Nodes have no __eq__, so that they can
be keys of dicts: what stands in several places is looked at once.
"""

from manysights.checks import check_name

GROUPS = ("pooled", "common", "and", "or", "row")


def setting_parts(settings, claims):
    """Return the parts of settings from pairs (fact, sources) and the parts of all claims."""
    found = []
    place = 0
    for fact, sources in settings:
        end = place + len(sources)
        found.append((fact, tuple(list(zip(claims[place:end], sources)))))
        place = end
    return tuple(found)


def parts_from(label, inner):
    """Return the parts of a node with this label, in which these parts stand."""
    word = label[0]
    if word in GROUPS:
        return (word, tuple(inner))
    if word in ("worth", "weighs"):
        return (word, label[1], inner[0], tuple(list(zip(label[2], inner[1:]))))
    if word == "show":
        return (word, tuple(list(zip(label[1], inner))))
    if word == "change":
        return (word, setting_parts(label[1], inner))
    return (*label, *inner)


def is_rooted(word, inner):
    """Tell whether a view of this word is grounded, from the nodes that stand in it."""
    if word == "pooled":
        return any([node.is_grounded for node in inner])
    return word == "eyes" or word == "common"


class Node:
    """A view, claim or deed.

    Its label has everything but the nodes that stand in it: its word, names,
    digits and numbers. The inner nodes are in the order of the written form.
    """

    def __init__(self, label, inner):
        self.label = label
        self.inner = tuple(inner)
        self.parts = parts_from(label, [node.parts for node in inner])
        self.is_grounded = is_rooted(label[0], inner)


def inner_first(nodes):
    """Return the nodes and all that stand in them, each once and after what stands in it."""
    found = {}
    waiting = list(nodes)
    while waiting:
        fresh = [inner for inner in waiting[-1].inner if inner not in found]
        if fresh:
            waiting.extend(fresh)
        else:
            found[waiting.pop()] = True
    return list(found)


def same_nodes(one, two):
    """Tell whether the nodes have equal parts."""
    numbers = {}
    found = {}
    for node in inner_first((one, two)):
        row = (node.label, tuple([found[inner] for inner in node.inner]))
        found[node] = numbers.setdefault(row, len(numbers))
    return found[one] == found[two]


def eyes_node(party):
    """Return the node of the eyes of a party."""
    check_name(party)
    return Node(("eyes", party), ())


def always_node():
    """Return the node of the claim that holds everywhere."""
    return Node(("always",), ())


def weighing_node(word, party, seen, terms):
    """Return the node of a worth or of weighing terms in the cells of `seen`."""
    numbers = tuple([number for number, _ in terms])
    return Node((word, party, numbers), [seen] + [claim.node for _, claim in terms])


def group_node(word, inner):
    """Return the node of the group of these nodes, or the only one itself."""
    if len(inner) == 1:
        return inner[0]
    return Node((word,), inner)
