"""What can be concluded in every standing that keeps certain customs."""

from manysights.customs import check_all_plain, custom_nodes
from manysights.follows import check_fact_claims, following
from manysights.under import derivation_under


def follows_under(customs, premises, conclusion):
    """Return what can be concluded in every standing that keeps the customs."""
    pairs = [*premises, conclusion]
    check_all_plain(customs, [view for view, _ in pairs])
    check_fact_claims(pairs)
    rows = custom_nodes(customs)
    aim = conclusion[0].node
    derivations = [derivation_under(rows, aim, view.node) for view, _ in premises]
    return following(premises, conclusion, rows, derivations)
