"""Stands: what must be known to pack on with any rule of a sight, and where letters and commands lead from them."""

from leastfile.basics import is_between, is_command, last_letters, reach_of
from leastfile.copying import prices_of, steps_at
from leastfile.errors import BadSight, TooMany
from leastfile.gauges import Gauge

STAND = ("text", "integer", "integers")
FIRST_STAND = ("", 0, ())
MOST_SIGHT = 6
MOST_STANDS = 1000


class Sight:
    """What all rules of a sight see, and what they may do, for a format."""

    def __init__(self, coding, sight):
        self._gauge = Gauge(coding)
        self._letters = coding.letters
        self._prices = prices_of(coding)
        self._sight = sight
        self._most = coding.window + max(coding.longest, sight) - 1

    def told(self, stand, letter):
        """The stand behind a letter, ready or not, and what is gained."""
        tail, waits, dearer = stand
        text = tail + letter
        gained, dearer = self._gauge.gained(text, dearer)
        if waits + 1 < self._sight:
            return ((last_letters(text, self._most), waits + 1, dearer), gained)
        return ((last_letters(text, self._most + 1), self._sight, dearer), gained)

    def is_ready(self, stand):
        """Tell whether a command must be taken at a stand."""
        return stand[1] == self._sight

    def steps(self, stand):
        """The steps that can be taken at a ready stand: pairs (command, price), in the order of commands."""
        tail, waits, _ = stand
        return [(command, price) for command, price, behind in steps_at(self._prices, tail, len(tail) - waits)]

    def lets(self, stand, thing):
        """Tell whether something is a command that can be taken at a ready stand."""
        return is_command(self._letters, thing) and thing in [command for command, price in self.steps(stand)]

    def behind(self, stand, command):
        """The stand behind a command that is taken at a ready stand."""
        tail, waits, dearer = stand
        return (last_letters(tail, self._most), waits - reach_of(command), dearer)


class Arena:
    """All stands that are not ready to which texts and rules lead, and where letters and commands lead from them."""

    def __init__(self, coding, sight):
        self.letters = coding.letters
        self.stands = [FIRST_STAND]
        self.numbers = {FIRST_STAND: 0}
        # For each stand and each letter: the number of what comes next, and what is gained.
        self.rows = []
        # What comes next: stands, ready or not; for each of them its options, triples (command, price, number of
        # the stand behind it). If it is not ready, the only one has None as its command, and the price 0.
        self.nexts = []
        self.options = []
        self._sight = Sight(coding, sight)
        self._next_numbers = {}
        while len(self.rows) < len(self.stands):
            stand = self.stands[len(self.rows)]
            self.rows.append([self._told(stand, letter) for letter in self.letters])

    def _told(self, stand, letter):
        """The number of what comes next behind a letter, and what is gained."""
        after, gained = self._sight.told(stand, letter)
        if after not in self._next_numbers:
            self._next_numbers[after] = len(self.nexts)
            self.nexts.append(after)
            self.options.append(self._options_at(after))
        return (self._next_numbers[after], gained)

    def _options_at(self, stand):
        """The options of a stand, ready or not."""
        if not self._sight.is_ready(stand):
            return [(None, 0, self._number_of(stand))]
        steps = self._sight.steps(stand)
        return [(command, price, self._number_of(self._sight.behind(stand, command))) for command, price in steps]

    def _number_of(self, stand):
        """The number of a stand that is not ready, a new one if it has none yet."""
        if stand not in self.numbers:
            if len(self.stands) == MOST_STANDS:
                raise TooMany(MOST_STANDS)
            self.numbers[stand] = len(self.stands)
            self.stands.append(stand)
        return self.numbers[stand]


def arena_of(coding, sight):
    """The arena of a sight that is let."""
    check_sight(sight)
    return Arena(coding, sight)


def check_sight(sight):
    """Raise BadSight for what is not an integer from 1 to 6."""
    if not is_between(sight, 1, MOST_SIGHT):
        raise BadSight()
