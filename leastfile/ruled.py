"""Rules against rules: by what factor the files of one are at most longer than those of another."""

from leastfile.basics import END, check_letter, check_view, last_letters
from leastfile.nets import Net
from leastfile.pairs import check_same_letters
from leastfile.rings import Measure, is_ring, is_table
from leastfile.takers import Taker

VIEW_OF_RULES = ("text", "integer", "integer")
FIRST_VIEW = ("", 0, 0)


class TwoRules:
    """Two rules for two formats with the same letters, which pack a text while it is told letter by letter."""

    def __init__(self, one, rule, other, second):
        check_same_letters(one, other)
        self._taker = Taker(one, rule)
        self._other_taker = Taker(other, second)
        self._most = max(one.window + rule.sight(one), other.window + second.sight(other)) - 1

    def moved(self, view, letter):
        """The next view behind a letter, and the prices of the commands that the two take then."""
        tail, waits, other_waits = view
        text = tail + letter
        waits, paid = self._taker.caught_up(text, waits + 1)
        other_waits, other_paid = self._other_taker.caught_up(text, other_waits + 1)
        return ((last_letters(text, self._most), waits, other_waits), paid, other_paid)

    def rests(self, view):
        """By how much the commands for the letters that wait cost the one more than the other, if no more come."""
        tail, waits, other_waits = view
        return self._taker.rest(tail, waits) - self._other_taker.rest(tail, other_waits)


def step_of_rules(one, rule, other, second, view, letter):
    """The next view of rules behind a letter, and the prices of the commands that the two rules take then."""
    two = TwoRules(one, rule, other, second)
    check_view(view, VIEW_OF_RULES)
    check_letter(one, letter)
    return two.moved(view, letter)


def share_of_rules(one, rule, other, second):
    """The least fraction r such that, for all texts, rule needs at most r times as many bits as second, and some."""
    return Measure(_net_of(one, rule, other, second)).quotient


def ring_of_rules(one, rule, other, second):
    """A pair of texts (begin, round) that shows that the share is needed."""
    return Measure(_net_of(one, rule, other, second)).ring()


def table_of_rules(one, rule, other, second):
    """A table for the share: a list of pairs (view, height)."""
    return Measure(_net_of(one, rule, other, second)).table()


def check_ring_of_rules(one, rule, other, second, thing):
    """Tell whether something is a pair of texts that shows that the share is needed."""
    return is_ring(_net_of(one, rule, other, second), thing)


def check_table_of_rules(one, rule, other, second, r, thing):
    """Tell whether something is a table for a fraction r above 0."""
    return is_table(_net_of(one, rule, other, second), VIEW_OF_RULES, r, thing)


def unlike_packed(one, rule, other, second):
    """The least text whose two files have unlike numbers of bits, or None."""
    two = TwoRules(one, rule, other, second)
    net = _net_of(one, rule, other, second)
    # By how much the one needs more for the least text that leads to each view, without the letters that wait.
    sums = {0: one.price(END) - other.price(END)}
    if sums[0] != 0:
        return ""
    # As long as no text is unlike, all texts that lead to a view have the same sum.
    for number, row in enumerate(net.rows):
        for letter, (behind, paid, other_paid) in zip(net.letters, row):
            total = sums[number] + paid - other_paid
            if total + two.rests(net.views[behind]) != 0:
                return net.text_to(number) + letter
            sums[behind] = total
    return None


def _net_of(one, rule, other, second):
    """The net of all views of rules."""
    two = TwoRules(one, rule, other, second)
    return Net(one.letters, FIRST_VIEW, two.moved)
