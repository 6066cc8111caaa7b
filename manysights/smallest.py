"""The smallest standing in which one plain view does not tell another one."""

from manysights.chains import unlike_pair
from manysights.joining import all_parties, standing_of
from manysights.listings import all_sights
from manysights.orders import always_derivation
from manysights.plains import check_plain, plain_sight


def first_parting(one, two, names, every, sights):
    """Return the first sights of the names, and a pair that they part, or None.

    `sights` has those of the names before, `every` is what there is to choose.
    """
    if not names:
        pair = unlike_pair(plain_sight(one, sights), plain_sight(two, sights))
        return None if pair is None else (sights, pair)
    for sight in every:
        found = first_parting(one, two, names[1:], every, {**sights, names[0]: sight})
        if found is not None:
            return found
    return None


def smallest_parting(one, two, *, most=4):
    """Return the least size, the first standing and a pair that part the views, or None."""
    check_plain((one, two))
    # The search would look at every standing if there is none.
    if always_derivation(one.node, two.node) is not None:
        return None
    names = all_parties((one.node, two.node), ())
    for size in range(1, most + 1):
        every = list(all_sights(size))
        found = first_parting(one.node, two.node, names, every, {})
        if found is not None:
            sights, pair = found
            return (size, standing_of(sights, ()), pair)
    return None
