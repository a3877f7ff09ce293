"""Texts that grow letter by letter, with the least number of bits known at each moment."""

from leastfile.basics import END, check_letter, check_text, is_between
from leastfile.copying import prices_of, steps_ending, steps_of, sums_to_end
from leastfile.errors import NoUndo
from leastfile.shortest import shortest


class Trying:
    """A block behind which a text that grows is what it was ahead of it."""

    def __init__(self, growing):
        self._growing = growing
        self._letters = ""
        self._sums = []

    def __enter__(self):
        self._letters = self._growing._letters
        self._sums = self._growing._sums

    def __exit__(self, kind, value, trace):
        growing = self._growing
        growing._letters = self._letters
        growing._sums = self._sums


class Growing:
    """A text that letters are put behind, and taken off again."""

    def __init__(self, coding):
        self._coding = coding
        self._prices = prices_of(coding)
        # The text, and the least sums of prices up to each of its places.
        self._letters = ""
        self._sums = [0]

    def add(self, letter):
        """Put a letter behind the text; return the least number of bits."""
        check_letter(self._coding, letter)
        return self._put(letter)

    def add_all(self, text):
        """Put several letters behind the text; return the list of the least numbers of bits."""
        check_text(self._coding, text)
        return [self._put(letter) for letter in text]

    def text(self):
        """The text."""
        return self._letters

    def least(self):
        """The least number of bits of all files of the text."""
        return self._sums[-1] + self._prices[END]

    def file(self):
        """The least of the files with the least number of bits."""
        return shortest(self._coding, self._letters)

    def back(self, many=1):
        """Take the last letters off."""
        if not is_between(many, 1, len(self._letters)):
            raise NoUndo()
        left = len(self._letters) - many
        self._letters = self._letters[:left]
        self._sums = self._sums[:left + 1]

    def trying(self):
        """A context manager behind whose block the text is what it was when the block began."""
        return Trying(self)

    def trial(self, deed):
        """Call a function with this object; return what it returns, the text being what it was."""
        with self.trying():
            return deed(self)

    def tried(self, text):
        """The list of the numbers that add_all would return."""
        with self.trying():
            return self.add_all(text)

    def _put(self, letter):
        """Put a letter of the format behind the text; return the least number of bits."""
        self._letters += letter
        steps = steps_ending(self._prices, self._letters)
        # The list is made anew, so that lists that were kept stay what they were.
        self._sums = self._sums + [min([self._sums[-reach] + price for reach, price in steps])]
        return self.least()


def kept(coding, text, more):
    """How many commands the ways of shortest files of text and of text + more can at most have in common ahead."""
    check_text(coding, text)
    check_text(coding, more)
    prices = prices_of(coding)
    steps = steps_of(prices, text)
    sums = sums_to_end(steps)
    longer_sums = sums_to_end(steps_of(prices, text + more))
    # The most common commands up to each place; None where no such way leads.
    most = [0] + [None] * len(text)
    for at, row in enumerate(steps):
        if most[at] is None:
            continue
        for command, price, behind in row:
            # A step of a shortest file lessens what is still to come by just its price.
            if price + sums[behind] == sums[at] and price + longer_sums[behind] == longer_sums[at]:
                most[behind] = max(most[at] + 1, most[behind] or 0)
    return max([many for many in most if many is not None])
