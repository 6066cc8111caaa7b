"""What must be told so that a team has a rule, or so that promises are kept."""

from manysights.falling import fallen, note_rows
from manysights.forcing import forced_rows, is_possible
from manysights.keeping import web_entries
from manysights.listings import all_sights
from manysights.meanings import meaning_of
from manysights.naming import PARTY, check_names
from manysights.pools import group_entries
from manysights.rules import Cells
from manysights.teams import demand_entries, wanted_in
from manysights.tellings import Watch, pair_entries, told_standing
from manysights.wishes import coarsest_of


def team_tellings(standing, hearers, demands):
    """Return the tellings after which some rule meets the demands, and that tell no other such telling."""
    check_names(standing, group_entries(hearers) + demand_entries(demands))
    wanted = wanted_in(standing, demands)
    found = {}
    for telling in list(all_sights(len(standing.deals))):
        end = told_standing(standing, hearers, telling)
        if is_possible(forced_rows(Cells(end), wanted)):
            found[telling.marks] = telling
    return coarsest_of(found)


def reliance_entries(reliances):
    """Return the entries of the names in reliances (see names_of)."""
    found = []
    for party, claim in reliances:
        found.extend([(PARTY, party), claim.node])
    return found


class Relying:
    """Reliances on a web in a standing; all claims mean what they mean before tellings."""

    def __init__(self, standing, hearers, web, reliances):
        self._standing = standing
        self._hearers = hearers
        self._web = web
        self._rows = note_rows(standing, web)
        self._relied = [(party, meaning_of(standing, claim.node)) for party, claim in reliances]

    def is_saved_by(self, telling):
        """Tell whether all parties keep their promises after the telling wherever they are relied on."""
        falling = fallen(told_standing(self._standing, self._hearers, telling), self._web, self._rows)
        for party, truths in self._relied:
            for holding, kept in zip(truths, falling.keeps(party)):
                if holding and not kept:
                    return False
        return True


def saving_tellings(standing, hearers, web, reliances):
    """Return the tellings that save all reliances and tell no other telling that does."""
    check_names(standing, group_entries(hearers) + web_entries(web) + reliance_entries(reliances))
    relying = Relying(standing, hearers, web, reliances)
    every = list(all_sights(len(standing.deals)))
    return coarsest_of({telling.marks: telling for telling in every if relying.is_saved_by(telling)})


def saved_in_secret(standing, hearers, web, reliances, secrets):
    """Return the first telling that is safe for the secrets and saves all reliances, or None."""
    entries = group_entries(hearers) + web_entries(web) + reliance_entries(reliances)
    check_names(standing, entries + pair_entries(secrets))
    watch = Watch(standing, hearers, secrets)
    relying = Relying(standing, hearers, web, reliances)
    for telling in list(all_sights(len(standing.deals))):
        if watch.is_safe(telling) and relying.is_saved_by(telling):
            return telling
    return None
