"""Leading nodes back over deeds: what says before a deed what a node says after it."""

from manysights.doing import singles_of
from manysights.forms import Node, always_node, eyes_node, group_node, inner_first


def lessons_of(single, parties):
    """Return for each party the nodes of the views that a show, announcement or call shows it."""
    word = single.label[0]
    if word == "show":
        found = {}
        for name, view in zip(single.label[1], single.inner):
            found.setdefault(name, []).append(view)
        return found
    view = single.inner[0]
    if word == "call":
        # After a call nobody thinks of deals at which its claim does not hold.
        view = Node(("whether",), single.inner)
    return {name: [view] for name in parties}


def eyes_before(single, parties):
    """Return for each party whose sight a single deed changes the view of it before the deed."""
    word = single.label[0]
    if word == "change":
        return {}
    if word == "forget":
        name = single.label[1]
        common = group_node("common", [eyes_node(party) for party in parties])
        kept = Node(("pooled",), (common, single.inner[0]))
        return {name: Node(("common",), (eyes_node(name), kept))}
    lessons = lessons_of(single, parties)
    return {name: Node(("pooled",), (eyes_node(name), *lessons[name])) for name in lessons}


def is_always(node):
    """Tell whether the claim is the one that holds everywhere."""
    return node.label[0] == "always"


def given_claim(source, digit):
    """Return the claim that the source gives this digit."""
    if isinstance(source, str):
        return Node(("fact", source, digit), ())
    return always_node() if source == digit else Node(("not",), (always_node(),))


def digit_case(claim, source, digit, other):
    """Return the claim of a digit where the source gives it if the claim holds, otherwise the other claim."""
    if is_always(claim):
        return given_claim(source, digit)
    if isinstance(source, str):
        here = Node(("and",), (claim, given_claim(source, digit)))
        return Node(("or",), (here, Node(("and",), (Node(("not",), (claim,)), other))))
    if source == digit:
        return Node(("or",), (claim, other))
    return Node(("and",), (Node(("not",), (claim,)), other))


class Change:
    """What the facts are after a change, said before it."""

    def __init__(self, single):
        self._cases = {}
        self._claims = {}
        place = 0
        for fact, sources in single.label[1]:
            end = place + len(sources)
            if end > place:
                self._cases[fact] = list(zip(single.inner[place:end], sources))
            place = end

    def claim_of(self, fact, digit):
        """Return the claim that the fact has this digit after the change."""
        if (fact, digit) not in self._claims:
            found = Node(("fact", fact, digit), ())
            for claim, source in self._cases[fact][::-1]:
                found = digit_case(claim, source, digit, found)
            self._claims[(fact, digit)] = found
        return self._claims[(fact, digit)]

    def view_of(self, fact):
        """Return the view of the digit that the fact has after the change."""
        claim, source = self._cases[fact][0]
        if is_always(claim) and isinstance(source, str):
            return Node(("value", source), ())
        # Where none of these nine digits stands, there is the tenth one.
        claims = [self.claim_of(fact, digit) for digit in range(9)]
        return Node(("pooled",), [Node(("whether",), (told,)) for told in claims])

    def leaf_before(self, node):
        """Return what says before the change what a view or claim of a fact says after it, or None."""
        if len(node.label) == 1 or node.label[1] not in self._cases:
            return None
        if node.label[0] == "fact":
            return self.claim_of(node.label[1], node.label[2])
        return self.view_of(node.label[1]) if node.label[0] == "value" else None


def node_before_single(node, single, parties):
    """Return the node that says before a single deed what the node says after it."""
    eyes = eyes_before(single, parties)
    change = Change(single) if single.label[0] == "change" else None
    found = {}
    for inner in inner_first((node,)):
        fresh = None
        if inner.label[0] == "eyes":
            fresh = eyes.get(inner.label[1])
        elif change is not None:
            fresh = change.leaf_before(inner)
        if fresh is None:
            fresh = Node(inner.label, [found[member] for member in inner.inner])
        found[inner] = fresh
    return found[node]


def node_before(node, deeds, parties):
    """Return the node that says before the deeds what the node says after them."""
    for single in singles_of(deeds)[::-1]:
        node = node_before_single(node, single, parties)
    return node
