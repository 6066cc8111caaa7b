"""Which deeds must be left out so that secrets stay secret."""

from manysights.choosing import index_sets
from manysights.doing import after_singles, singles_of
from manysights.naming import check_names
from manysights.sights import Sight
from manysights.tellings import Watch, pair_entries


def is_quiet_moment(standing, secrets):
    """Tell whether no group knows that its claim holds, at any open deal."""
    return Watch(standing, (), secrets).is_safe(Sight.nothing(len(standing.deals)))


class Doing:
    """Deeds of a sequence, done as long as they are possible and the secrets stay secret."""

    def __init__(self, standing, menu, secrets):
        self._menu = menu
        self._secrets = secrets
        # The standing after the deeds with these indexes, None if they cannot be done so.
        self._ends = {(): standing if is_quiet_moment(standing, secrets) else None}

    def end_of(self, row):
        """Return the standing after the deeds with these indexes, or None."""
        for count in range(1, len(row) + 1):
            if row[:count] not in self._ends:
                self._ends[row[:count]] = self._one_more(self._ends[row[:count - 1]], row[count - 1])
        return self._ends[row]

    def _one_more(self, standing, index):
        """Return the standing after one more deed, or None."""
        if standing is None:
            return None
        end, _ = after_singles(standing, self._menu[index])
        if end is None or not is_quiet_moment(end, self._secrets):
            return None
        return end


def leave_out(standing, deeds, secrets):
    """Return the indexes of the fewest deeds that must be left out, or None."""
    check_names(standing, [deed.node for deed in deeds] + pair_entries(secrets))
    doing = Doing(standing, [singles_of((deed.node,)) for deed in deeds], secrets)
    for row in index_sets(len(deeds)):
        rest = tuple([index for index in range(len(deeds)) if index not in row])
        if doing.end_of(rest) is not None:
            return row
    return None
