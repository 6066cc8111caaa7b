"""What plain deeds do in every standing."""

from manysights.before import check_listed
from manysights.choosing import index_sets
from manysights.doing import singles_of
from manysights.errors import NotPlain
from manysights.joining import joined_sights, standing_of
from manysights.leading import eyes_before
from manysights.orders import always_derivation
from manysights.plains import check_plain, is_plain
from manysights.shortest import Shortener
from manysights.thinning import Thinning
from manysights.views import View


class Leader:
    """Leads the eyes of all parties back over plain deeds, in shortest form."""

    def __init__(self, parties):
        self._parties = tuple(parties)
        self.shortener = Shortener()

    def _over(self, single, eyes):
        """Return what is seen after one more single deed."""
        found = dict(eyes)
        nodes = eyes_before(single, self._parties)
        for name in nodes:
            found[name] = self.shortener.shortest_of(nodes[name], eyes)
        return found

    def eyes_after(self, deeds):
        """Return for each party the number of the view that tells before the deeds what it sees after them."""
        eyes = {name: self.shortener.eyes_of(name) for name in self._parties}
        for single in singles_of(deeds):
            eyes = self._over(single, eyes)
        return eyes


def is_plain_deed(node):
    """Tell whether the deed is a show, announcement or forgetting of plain views, or a row of such."""
    for single in singles_of((node,)):
        if single.label[0] not in ("show", "announce", "forget"):
            return False
        if not all([is_plain(view) for view in single.inner]):
            return False
    return True


def check_plain_deeds(deeds, views):
    """Raise NotPlain if one of the deeds or views is not plain."""
    for deed in deeds:
        if not is_plain_deed(deed.node):
            raise NotPlain()
    check_plain(views)


def led_eyes(deed, *, parties):
    """Return for each party the view that tells before the deed what it sees after it."""
    check_plain_deeds((deed,), ())
    check_listed((deed.node,), parties)
    leader = Leader(parties)
    eyes = leader.eyes_after((deed.node,))
    return tuple([(name, View(leader.shortener.node_of(eyes[name]))) for name in parties])


class Sameness:
    """Whether two deeds always have the same effect, or for whom and where they have not."""

    def __init__(self, party, standing):
        self.same = party is None
        self.party = party
        self.standing = standing


def parting_standing(one, two, parties):
    """Return a standing of the parties in which the sights of two nodes that are not always alike differ."""
    if always_derivation(one, two) is not None:
        one, two = two, one
    return standing_of(joined_sights(parties, (), Thinning(two).thin(one)), ())


def always_same(one, two, *, parties):
    """Return whether two deeds have the same effect in every standing of the parties."""
    check_plain_deeds((one, two), ())
    check_listed((one.node, two.node), parties)
    leader = Leader(parties)
    left, right = leader.eyes_after((one.node,)), leader.eyes_after((two.node,))
    for name in parties:
        if left[name] != right[name]:
            nodes = [leader.shortener.node_of(eyes[name]) for eyes in (left, right)]
            return Sameness(name, parting_standing(nodes[0], nodes[1], parties))
    return Sameness(None, None)


def fewest_deeds(deeds, *, parties):
    """Return the indexes of the fewest deeds that always have the same effect as all of them."""
    nodes = [deed.node for deed in deeds]
    check_plain_deeds(deeds, ())
    check_listed(nodes, parties)
    leader = Leader(parties)
    aim = leader.eyes_after(nodes)
    for row in index_sets(len(nodes)):
        if leader.eyes_after([nodes[index] for index in row]) == aim:
            return row
    return tuple(range(len(nodes)))


def tells_after(deed, one, two, *, parties):
    """Tell whether `one`, as it is after the deed, always tells what `two` told before it."""
    check_plain_deeds((deed,), (one, two))
    check_listed((one.node, two.node, deed.node), parties)
    leader = Leader(parties)
    led = leader.shortener.shortest_of(one.node, leader.eyes_after((deed.node,)))
    return always_derivation(leader.shortener.node_of(led), two.node) is not None
