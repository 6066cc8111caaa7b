"""What can be concluded in every standing from what is known."""

from manysights.cases import Cases, is_fact_claim
from manysights.errors import NotFactClaim
from manysights.joining import all_parties, joined_sights, standing_of
from manysights.orders import always_derivation
from manysights.plains import check_plain


class Following:
    """Whether a conclusion always follows, with derivations or with an example."""

    def __init__(self, used, standing, deal):
        self.follows = standing is None
        self.used = used
        self.standing = standing
        self.deal = deal


def check_fact_claims(pairs):
    """Raise NotFactClaim if one of the claims is not a fact claim."""
    for _, claim in pairs:
        if not is_fact_claim(claim.node):
            raise NotFactClaim()


def find_cases(premises, conclusion, used):
    """Return names of facts and two cases that show what does not follow, or None.

    The first case satisfies all premises, the second one those that are used
    but not the conclusion.
    """
    claims = [claim.node for _, claim in premises]
    aim = conclusion[1].node
    cases = Cases([*claims, aim])
    fine = cases.satisfying_all(claims)
    told = [claims[index] for index in used]
    wrong = cases.satisfying_all(told) & (cases.full ^ cases.satisfying(aim))
    if fine == 0 or wrong == 0:
        return None
    return (cases.names, cases.first_of(fine), cases.first_of(wrong))


def following(premises, conclusion, customs, derivations):
    """Return what follows, from a derivation or None for each premise.

    If a premise is not told by the view of the conclusion, it may be false
    where only who has that view cannot tell. So the digits at one deal are
    those of the second case, at all others those of the first one.
    """
    used = [(index, value) for index, value in enumerate(derivations) if value is not None]
    found = find_cases(premises, conclusion, [index for index, _ in used])
    if found is None:
        return Following(tuple(used), None, None)
    views = [view.node for view, _ in premises]
    names = all_parties([*views, conclusion[0].node], customs)
    sights = joined_sights(names, customs, conclusion[0].node)
    count = sights[names[0]].size
    facts = []
    for name, fine, wrong in zip(*found):
        facts.append((name, (fine, wrong) + (fine,) * (count - 2)))
    return Following((), standing_of(sights, facts), 0)


def follows(premises, conclusion):
    """Return what can be concluded in every standing."""
    pairs = [*premises, conclusion]
    check_plain([view for view, _ in pairs])
    check_fact_claims(pairs)
    aim = conclusion[0].node
    derivations = [always_derivation(aim, view.node) for view, _ in premises]
    return following(premises, conclusion, (), derivations)
