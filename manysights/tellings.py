"""What can be told to some parties while secrets stay secret.

The functions that look for tellings walk over all sights of the size of the
standing, so that what they find is in ascending order of marks.
"""

from manysights.chains import tells
from manysights.errors import SizesDiffer
from manysights.listings import all_sights, splits
from manysights.meanings import known_truths, meaning_of
from manysights.naming import check_names
from manysights.pieces import common_sight
from manysights.pools import group_entries, pool
from manysights.standings import with_sights


def pair_entries(pairs):
    """Return the entries of the names in pairs of a group and a claim or view (see names_of)."""
    found = []
    for group, term in pairs:
        found.extend(group_entries(group))
        found.append(term.node)
    return found


def check_telling(standing, telling):
    """Raise SizesDiffer if the telling has another size than the standing."""
    if telling.size != len(standing.deals):
        raise SizesDiffer(len(standing.deals), telling.size)


def told_standing(standing, hearers, telling):
    """Return the standing after the hearers have been told."""
    sights = {name: standing.sight(name) for name in standing.parties}
    for name in hearers:
        sights[name] = sights[name] & telling
    return with_sights(standing, sights)


def told(standing, hearers, telling):
    """Return the standing after the hearers have been told in which cell the actual deal is."""
    check_names(standing, group_entries(hearers))
    check_telling(standing, telling)
    return told_standing(standing, hearers, telling)


class Watch:
    """Secrets of a standing: pairs of a group and a claim, which means what it means before tellings."""

    def __init__(self, standing, hearers, secrets):
        self._standing = standing
        self._hearers = hearers
        self._secrets = [(group, meaning_of(standing, claim.node)) for group, claim in secrets]

    def leaks(self, telling):
        """Return the pairs of an index of a secret and a deal at which the telling gives it away."""
        end = told_standing(self._standing, self._hearers, telling)
        common = common_sight(end)
        found = []
        for index, (group, truths) in enumerate(self._secrets):
            knowing = known_truths(pool(end, common, group), truths)
            found.extend([(index, deal) for deal, known in zip(end.deals, knowing) if known])
        return tuple(found)

    def is_safe(self, telling):
        """Tell whether the telling gives nothing away."""
        return len(self.leaks(telling)) == 0


def watch_of(standing, hearers, secrets):
    """Return the watch over the secrets, after the names were looked at."""
    check_names(standing, group_entries(hearers) + pair_entries(secrets))
    return Watch(standing, hearers, secrets)


def given_away(standing, hearers, secrets, telling):
    """Return the pairs of an index of a secret and a deal at which the telling gives it away."""
    watch = watch_of(standing, hearers, secrets)
    check_telling(standing, telling)
    return watch.leaks(telling)


def finest_of(listed):
    """Return those of the sights, with all coarser ones among them, that no other one of them tells.

    The sights are listed under their marks.
    """
    # If some listed sight tells more, so does one with just one cell more.
    return tuple([listed[marks] for marks in listed
                  if not any([other.marks in listed for other in splits(listed[marks])])])


def finest_tellings(standing, hearers, secrets):
    """Return the safe tellings for which no telling that tells more is safe."""
    watch = watch_of(standing, hearers, secrets)
    every = list(all_sights(len(standing.deals)))
    return finest_of({telling.marks: telling for telling in every if watch.is_safe(telling)})


def is_finest(standing, hearers, secrets, telling):
    """Tell whether the telling is safe while none that tells more is."""
    watch = watch_of(standing, hearers, secrets)
    check_telling(standing, telling)
    if not watch.is_safe(telling):
        return False
    return not any([watch.is_safe(other) for other in splits(telling)])


def finest_within(standing, hearers, secrets, wanted):
    """Return the finest safe ones of the tellings that a wanted telling tells."""
    watch = watch_of(standing, hearers, secrets)
    check_telling(standing, wanted)
    every = [telling for telling in list(all_sights(len(standing.deals))) if tells(wanted, telling)]
    return finest_of({telling.marks: telling for telling in every if watch.is_safe(telling)})
