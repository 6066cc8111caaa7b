"""What deeds do to a standing."""

from manysights.errors import NotPossible
from manysights.meanings import meanings_of, open_where
from manysights.naming import check_names
from manysights.pieces import common_sight
from manysights.standings import with_digits, with_sights


def singles_of(nodes):
    """Return the single deeds of the deeds, in order."""
    found = []
    waiting = list(nodes)[::-1]
    while waiting:
        node = waiting.pop()
        if node.label[0] == "row":
            waiting.extend(node.inner[::-1])
        else:
            found.append(node)
    return found


def shown(standing, parties, sights):
    """Return the standing after each party was shown the sight at its place."""
    found = {name: standing.sight(name) for name in standing.parties}
    for name, sight in zip(parties, sights):
        found[name] = found[name] & sight
    return with_sights(standing, found)


def called(standing, truths):
    """Return the standing of the deals at which the truths are True, or None if there are none."""
    if not any(truths):
        return None
    return standing.only(open_where(standing, truths))


def first_given(standing, fact, sources, rows):
    """Return the digits of a fact after its setting; the rows are the truths of its claims."""
    found = standing.digits(fact)
    for source, truths in reversed(list(zip(sources, rows))):
        given = standing.digits(source) if isinstance(source, str) else (source,) * len(truths)
        pairs = list(zip(found, given))
        found = tuple([pair[int(holding)] for pair, holding in zip(pairs, truths)])
    return found


def changed(standing, settings, rows):
    """Return the standing after a change; the rows are the truths of all its claims."""
    digits = {name: standing.digits(name) for name in standing.facts}
    place = 0
    for fact, sources in settings:
        end = place + len(sources)
        digits[fact] = first_given(standing, fact, sources, rows[place:end])
        place = end
    return with_digits(standing, digits)


def forgotten(standing, party, seen):
    """Return the standing after the party keeps only what this sight tells too."""
    sights = {name: standing.sight(name) for name in standing.parties}
    sights[party] = sights[party] | (common_sight(standing) & seen)
    return with_sights(standing, sights)


def after_single(standing, node):
    """Return the standing after a single deed, or None if no deal would be open."""
    word = node.label[0]
    inner = meanings_of(standing, node.inner)
    if word == "show":
        return shown(standing, node.label[1], inner)
    if word == "announce":
        return shown(standing, standing.parties, inner * len(standing.parties))
    if word == "call":
        return called(standing, inner[0])
    if word == "change":
        return changed(standing, node.label[1], inner)
    return forgotten(standing, node.label[1], inner[0])


def after_singles(standing, singles):
    """Return the standing after single deeds, or None, and the number of those that were done."""
    for index, node in enumerate(singles):
        standing = after_single(standing, node)
        if standing is None:
            return (None, index)
    return (standing, len(singles))


def after_node(standing, node):
    """Return the standing after a deed; its names are in the standing."""
    found, index = after_singles(standing, singles_of((node,)))
    if found is None:
        raise NotPossible(index)
    return found


def after(standing, deed):
    """Return the standing after the deed."""
    check_names(standing, (deed.node,))
    return after_node(standing, deed.node)


def possible_at(standing, deed):
    """Return the open deals at which the deed can be done."""
    check_names(standing, (deed.node,))
    found, _ = after_singles(standing, singles_of((deed.node,)))
    return () if found is None else found.deals
