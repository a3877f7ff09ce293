"""Rankings: rules in the order of their shares, and what of them a better rule of the same sight could spare."""

from math import lcm

from leastfile.arenas import MOST_SIGHT
from leastfile.basics import check_number, fraction
from leastfile.rules import Rule
from leastfile.shares import share
from leastfile.sights import sight_share

MOST_RULE_SIGHT = 9


def rules_by_share(coding, most):
    """The list of the pairs (share, rule) for all rules whose sight is at most a number, ascending by the share."""
    check_number(most, 1, MOST_RULE_SIGHT, "most")
    pairs = [(share(coding, rule), rule) for rule in _all_rules() if rule.sight(coding) <= most]
    # With one bottom for all shares, their tops are in the same order.
    whole = 1
    for (top, bottom), rule in pairs:
        whole = lcm(whole, bottom)
    tops = [top * (whole // bottom) for (top, bottom), rule in pairs]
    return [pairs[place] for _, place in sorted([(top, place) for place, top in enumerate(tops)])]


def least_sight(coding, r):
    """The least sight whose sight_share is at most r, or None."""
    for sight in range(1, MOST_SIGHT + 1):
        top, bottom = sight_share(coding, sight)
        if top * r[1] <= r[0] * bottom:
            return sight
    return None


def lost_by(coding, rule):
    """The share of a rule divided by the sight_share of its sight."""
    top, bottom = share(coding, rule)
    low, below = sight_share(coding, rule.sight(coding))
    return fraction(top * below, bottom * low)


def _all_rules():
    """The list of all rules, in the order in which equal shares are told."""
    return [Rule(kind) for kind in ("longest", "cheapest", "lazy")] + [Rule("ahead", ahead) for ahead in range(1, 9)]
