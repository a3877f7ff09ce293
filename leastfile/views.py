"""Views: what must be known of a text that is told letter by letter, to pack on and to know its least costs."""

from leastfile.basics import check_letter, check_view, last_letters, reach_of
from leastfile.copying import prices_of
from leastfile.gauges import Gauge
from leastfile.nets import Net
from leastfile.rules import choice

VIEW = ("text", "integer", "integers")


class Packer:
    """A rule for a format that packs a text while it is told letter by letter."""

    def __init__(self, coding, rule):
        self._gauge = Gauge(coding)
        self._prices = prices_of(coding)
        self._rule = rule
        self._sight = rule.sight(coding)
        self._most = coding.window + max(coding.longest, self._sight) - 1

    def moved(self, view, letter):
        """The next view behind a letter, the price of the command that is taken then, and what is gained."""
        tail, waits, dearer = view
        text = tail + letter
        gained, dearer = self._gauge.gained(text, dearer)
        waits, paid = self._due(text, waits + 1)
        return ((last_letters(text, self._most), waits, dearer), paid, gained)

    def rest(self, view):
        """The sum of the prices of the commands that are taken for the letters that wait."""
        tail, waits, _ = view
        total = 0
        while waits > 0:
            command = choice(self._prices, self._rule, tail, len(tail) - waits)
            total += self._prices[command]
            waits -= reach_of(command)
        return total

    def _due(self, text, waits):
        """How many of the last letters still wait if a command is taken as soon as it can be, and its price."""
        if waits < self._sight:
            return (waits, 0)
        command = choice(self._prices, self._rule, text, len(text) - waits)
        return (waits - reach_of(command), self._prices[command])


def first_view():
    """The view of the empty text."""
    return ("", 0, ())


def step(coding, rule, view, letter):
    """The next view behind a letter, the price of the command that the rule takes then, and what is gained."""
    check_view(view, VIEW)
    check_letter(coding, letter)
    return Packer(coding, rule).moved(view, letter)


def rest(coding, rule, view):
    """The sum of the prices of the commands that the rule takes for the letters that wait, if no more come."""
    return Packer(coding, rule).rest(view)


def views(coding, rule):
    """The number of all views."""
    return len(net_of(coding, rule).views)


def net_of(coding, rule):
    """The net of all views."""
    packer = Packer(coding, rule)
    return Net(coding.letters, first_view(), packer.moved)
