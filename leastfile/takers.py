"""Takers: rules that take their commands while a text is told letter by letter."""

from leastfile.basics import reach_of
from leastfile.copying import prices_of
from leastfile.rules import choice


class Taker:
    """A rule for a format."""

    def __init__(self, coding, rule):
        self._prices = prices_of(coding)
        self._rule = rule
        self._sight = rule.sight(coding)

    def caught_up(self, text, waits):
        """How many of the last letters still wait if a command is taken as soon as it can be, and its price."""
        if waits < self._sight:
            return (waits, 0)
        command = choice(self._prices, self._rule, text, len(text) - waits)
        return (waits - reach_of(command), self._prices[command])

    def rest(self, text, waits):
        """The sum of the prices of the commands that are taken for the last letters of a text if no more come."""
        total = 0
        while waits > 0:
            command = choice(self._prices, self._rule, text, len(text) - waits)
            total += self._prices[command]
            waits -= reach_of(command)
        return total
