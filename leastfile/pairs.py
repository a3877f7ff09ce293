"""Pairs of formats: by what factor the shortest files of one are at most longer than those of the other."""

from leastfile.basics import check_letter, check_view, last_letters
from leastfile.errors import OtherLetters
from leastfile.gauges import Gauge
from leastfile.nets import Net
from leastfile.rings import Measure, is_ring, is_table

VIEW_OF_TWO = ("text", "integers", "integers")


class Two:
    """Two formats with the same letters, whose least costs are told letter by letter."""

    def __init__(self, one, other):
        self._gauge = Gauge(one)
        self._other_gauge = Gauge(other)
        self._most = max(one.window + one.longest, other.window + other.longest) - 1

    def moved(self, view, letter):
        """The next view behind a letter, and what the one format and the other one gain."""
        tail, dearer, other_dearer = view
        text = tail + letter
        gained, dearer = self._gauge.gained(text, dearer)
        other_gained, other_dearer = self._other_gauge.gained(text, other_dearer)
        return ((last_letters(text, self._most), dearer, other_dearer), gained, other_gained)


def step_of_two(one, other, view, letter):
    """The next view of two behind a letter, and what the one format and the other one gain."""
    check_same_letters(one, other)
    check_view(view, VIEW_OF_TWO)
    check_letter(one, letter)
    return Two(one, other).moved(view, letter)


def share_of(one, other):
    """The least fraction r such that, for all texts, one needs at most r times as many bits as other, and some more."""
    return Measure(net_of_two(one, other)).quotient


def ring_of(one, other):
    """A pair of texts (begin, round) that shows that the share is needed."""
    return Measure(net_of_two(one, other)).ring()


def table_of(one, other):
    """A table for the share: a list of pairs (view, height)."""
    return Measure(net_of_two(one, other)).table()


def check_ring_of(one, other, thing):
    """Tell whether something is a pair of texts that shows that the share is needed."""
    return is_ring(net_of_two(one, other), thing)


def check_table_of(one, other, r, thing):
    """Tell whether something is a table for a fraction r above 0."""
    return is_table(net_of_two(one, other), VIEW_OF_TWO, r, thing)


def net_of_two(one, other):
    """The net of all views of two."""
    check_same_letters(one, other)
    two = Two(one, other)
    return Net(one.letters, ("", (), ()), two.moved)


def check_same_letters(one, other):
    """Raise OtherLetters if the letters of two formats differ."""
    if one.letters != other.letters:
        raise OtherLetters()
