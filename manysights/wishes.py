"""What must be told so that groups see what they wish to see."""

from manysights.chains import tells
from manysights.listings import all_sights, merges
from manysights.meanings import meaning_of
from manysights.naming import check_names
from manysights.pieces import common_sight
from manysights.pools import group_entries, pool
from manysights.tellings import pair_entries, told_standing, watch_of


class Granting:
    """Wishes in a standing: pairs of a group and a view, which means what it means before tellings."""

    def __init__(self, standing, hearers, wishes):
        self._standing = standing
        self._hearers = hearers
        self._wishes = [(group, meaning_of(standing, view.node)) for group, view in wishes]

    def grants(self, telling):
        """Tell whether the telling grants all wishes."""
        end = told_standing(self._standing, self._hearers, telling)
        common = common_sight(end)
        return all([tells(pool(end, common, group), seen) for group, seen in self._wishes])


def coarsest_of(listed):
    """Return those of the sights, with all finer ones among them, that tell no other one of them.

    The sights are listed under their marks.
    """
    return tuple([listed[marks] for marks in listed
                  if not any([other.marks in listed for other in merges(listed[marks])])])


def granting_tellings(standing, hearers, wishes):
    """Return the tellings that grant all wishes, in ascending order of marks."""
    granting = Granting(standing, hearers, wishes)
    return [telling for telling in list(all_sights(len(standing.deals))) if granting.grants(telling)]


def coarsest_tellings(standing, hearers, wishes):
    """Return the tellings that grant all wishes and tell no other one that does."""
    check_names(standing, group_entries(hearers) + pair_entries(wishes))
    return coarsest_of({telling.marks: telling for telling in granting_tellings(standing, hearers, wishes)})


class Between:
    """A safe telling that grants all wishes, or what the coarsest ones that do give away."""

    def __init__(self, telling, losses):
        self.telling = telling
        self.losses = losses


def telling_between(standing, hearers, secrets, wishes):
    """Return the first safe telling that grants all wishes, or what is lost by the others."""
    check_names(standing, group_entries(hearers) + pair_entries(secrets) + pair_entries(wishes))
    watch = watch_of(standing, hearers, secrets)
    granting = granting_tellings(standing, hearers, wishes)
    for telling in granting:
        if watch.is_safe(telling):
            return Between(telling, ())
    losses = []
    for telling in coarsest_of({one.marks: one for one in granting}):
        index, deal = watch.leaks(telling)[0]
        losses.append((telling, index, deal))
    return Between(None, tuple(losses))
