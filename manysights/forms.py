"""What the parts of views and claims have in common.

Views and claims hold nothing but their parts: tuples whose first item is a
word. Views contain claims and claims contain views, so what both need to know
about parts stands here.
"""

from manysights.checks import check_name

ALWAYS = ("always",)


def eyes_parts(party):
    """Return the parts of the eyes of a party."""
    check_name(party)
    return ("eyes", party)


def term_parts(terms):
    """Return the terms with the parts of their claims."""
    return tuple([(number, claim.parts) for number, claim in terms])


def is_grounded(parts):
    """Tell whether the deals of the view are never alike across pieces."""
    if parts[0] == "pooled":
        return any([is_grounded(member) for member in parts[1]])
    return parts[0] == "eyes" or parts[0] == "common"
