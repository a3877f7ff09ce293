"""Shares: by what factor the files of a rule are at most longer than the shortest ones, and what shows it."""

from leastfile.rings import Measure, is_ring, is_table
from leastfile.views import VIEW, net_of


def share(coding, rule):
    """The least fraction r such that, for all texts, a rule needs at most r times the least number and some bits."""
    return Measure(net_of(coding, rule)).quotient


def ring(coding, rule):
    """A pair of texts (begin, round) that shows that the share is needed."""
    return Measure(net_of(coding, rule)).ring()


def check_ring(coding, rule, thing):
    """Tell whether something is a pair of texts that shows that the share is needed."""
    return is_ring(net_of(coding, rule), thing)


def table(coding, rule):
    """A table for the share: a list of pairs (view, height)."""
    return Measure(net_of(coding, rule)).table()


def check_table(coding, rule, r, thing):
    """Tell whether something is a table for a fraction r above 0."""
    return is_table(net_of(coding, rule), VIEW, r, thing)
