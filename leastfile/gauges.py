"""Gauges: what each letter of a text that is told letter by letter adds to its least costs."""

from leastfile.copying import prices_of, steps_ending


class Gauge:
    """The prices of a format, held against the last letters of texts."""

    def __init__(self, coding):
        self._prices = prices_of(coding)
        self._longest = coding.longest

    def gained(self, text, dearer):
        """What the last letter of a text adds, and how much dearer the places ahead are then: a pair.

        dearer tells this of the places ahead of the last but one, and of a long text the last letters are enough.
        """
        bases = (0,) + dearer
        gain = min([bases[reach - 1] + price for reach, price in steps_ending(self._prices, text)])
        later = tuple([base - gain for base in bases])
        return (gain, later[:self._longest - 1])
