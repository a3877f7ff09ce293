"""Views: what must be known of a text that is told letter by letter, to pack on and to know its least costs."""

from leastfile.basics import check_letter, check_view, last_letters
from leastfile.gauges import Gauge
from leastfile.nets import Net
from leastfile.takers import Taker

VIEW = ("text", "integer", "integers")


class Packer:
    """A rule for a format that packs a text while it is told letter by letter."""

    def __init__(self, coding, rule):
        self._gauge = Gauge(coding)
        self._taker = Taker(coding, rule)
        self._most = coding.window + max(coding.longest, rule.sight(coding)) - 1

    def moved(self, view, letter):
        """The next view behind a letter, the price of the command that is taken then, and what is gained."""
        tail, waits, dearer = view
        text = tail + letter
        gained, dearer = self._gauge.gained(text, dearer)
        waits, paid = self._taker.caught_up(text, waits + 1)
        return ((last_letters(text, self._most), waits, dearer), paid, gained)

    def rest(self, view):
        """The sum of the prices of the commands that are taken for the letters that wait."""
        tail, waits, _ = view
        return self._taker.rest(tail, waits)


def first_view():
    """The view of the empty text."""
    return ("", 0, ())


def step(coding, rule, view, letter):
    """The next view behind a letter, the price of the command that the rule takes then, and what is gained."""
    check_view(view, VIEW)
    check_letter(coding, letter)
    return Packer(coding, rule).moved(view, letter)


def rest(coding, rule, view):
    """The sum of the prices of the commands that the rule takes for the letters that wait, if no more come."""
    return Packer(coding, rule).rest(view)


def views(coding, rule):
    """The number of all views."""
    return len(net_of(coding, rule).views)


def net_of(coding, rule):
    """The net of all views."""
    packer = Packer(coding, rule)
    return Net(coding.letters, first_view(), packer.moved)
