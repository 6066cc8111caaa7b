"""Standings in which two deals are alike in a plain view, and in little else.

A custom is here a pair of the node of its view and the name of its party.
"""

from manysights.naming import parties_of
from manysights.plains import plain_sight
from manysights.sights import Sight
from manysights.standings import made_standing


def all_parties(views, customs):
    """Return the parties of plain views and of customs, in ascending order."""
    told = list(parties_of(list(views) + [view for view, _ in customs]))
    return tuple(sorted(set(told + [party for _, party in customs])))


def join_deals(node):
    """Return a number of deals, and joins (party, deal, other) of them.

    If each party does not tell apart what is joined for it, the deals 0 and 1
    are alike in the plain view.
    """
    count = 2
    joins = []
    waiting = [(node, 0, 1)]
    while waiting:
        view, deal, other = waiting.pop()
        if view.label[0] == "eyes":
            joins.append((view.label[1], deal, other))
        elif view.label[0] == "pooled":
            waiting.extend([(member, deal, other) for member in view.inner])
        else:
            # Going through the members once would favour their order.
            members = view.inner + view.inner
            ends = [deal] + list(range(count, count + len(members) - 1)) + [other]
            count += len(members) - 1
            waiting.extend(list(zip(members, ends, ends[1:])))
    return (count, joins)


def root_of(boss, deal):
    """Return the root of the deal, halving the way to it for the next time."""
    while boss[deal] != deal:
        boss[deal] = boss[boss[deal]]
        deal = boss[deal]
    return deal


def joined_sight(count, pairs):
    """Return the sight in which the pairs of deals are alike, and no more than must be."""
    boss = list(range(count))
    for deal, other in pairs:
        boss[root_of(boss, other)] = root_of(boss, deal)
    return Sight([root_of(boss, deal) for deal in range(count)])


def kept(customs, sights):
    """Return sights in which more deals are alike, as far as the customs need it."""
    found = {name: sights[name] for name in sights}
    changed = True
    while changed:
        changed = False
        for view, party in customs:
            wider = found[party] | plain_sight(view, found)
            if wider != found[party]:
                found[party] = wider
                changed = True
    return found


def joined_sights(names, customs, node):
    """Return sights of the parties in which the deals 0 and 1 are alike in the view."""
    count, joins = join_deals(node)
    sights = {}
    for name in names:
        sights[name] = joined_sight(count, [(deal, other) for party, deal, other in joins if party == name])
    return kept(customs, sights)


def standing_of(sights, facts):
    """Return the standing of the parties with these sights, all weights being 1.

    The facts are pairs of a name and digits.
    """
    count = list(sights.values())[0].size
    parties = [(name, sights[name], (1,) * count) for name in sights]
    return made_standing(list(range(count)), facts, parties)
