"""Pieces: texts that are cut, each piece with a file of its own, and what that costs."""

from leastfile.basics import END, check_letter, check_number, check_text, check_view, distance_of, is_integer
from leastfile.basics import last_letters
from leastfile.copying import prices_of, steps_of
from leastfile.errors import BadNumber
from leastfile.gauges import Gauge
from leastfile.nets import Net
from leastfile.rings import Measure, is_ring, is_table
from leastfile.shortest import least, shortest

VIEW_OF_PIECES = ("text", "integer", "integers", "integers")
FIRST_VIEW = ("", 0, (), ())
MOST_LETTERS = 8


class Cutter:
    """A format, and the number of letters of the pieces, while a text is told letter by letter."""

    def __init__(self, coding, m):
        self._gauge = Gauge(coding)
        self._end = coding.price(END)
        self._m = m
        self._most = coding.window + coding.longest - 1

    def moved(self, view, letter):
        """The next view behind a letter, what the pieces gain, and what the whole text gains."""
        tail, place, dearer, own_dearer = view
        gained, dearer = self._gauge.gained(tail + letter, dearer)
        own_gained, own_dearer = self._gauge.gained(last_letters(tail, place) + letter, own_dearer)
        tail = last_letters(tail + letter, self._most)
        if place + 1 < self._m:
            return ((tail, place + 1, dearer, own_dearer), own_gained, gained)
        return ((tail, 0, dearer, ()), own_gained + self._end, gained)


def least_pieces(coding, text, m):
    """The least number of bits of the files of the pieces of a text together."""
    return sum([least(coding, piece) for piece in _cut(coding, text, m)])


def pieces(coding, text, m):
    """The list of the shortest files of the pieces of a text."""
    return [shortest(coding, piece) for piece in _cut(coding, text, m)]


def step_of_pieces(coding, m, view, letter):
    """The next view of pieces behind a letter, what the pieces gain, and what the whole text gains."""
    check_number(m, 1, MOST_LETTERS, "m")
    check_view(view, VIEW_OF_PIECES)
    check_letter(coding, letter)
    return Cutter(coding, m).moved(view, letter)


def share_of_pieces(coding, m):
    """The least fraction r such that, for all texts, the pieces need at most r times least and some bits."""
    return Measure(_net_of(coding, m)).quotient


def ring_of_pieces(coding, m):
    """A pair of texts (begin, round) that shows that the share is needed."""
    return Measure(_net_of(coding, m)).ring()


def table_of_pieces(coding, m):
    """A table for the share: a list of pairs (view, height)."""
    return Measure(_net_of(coding, m)).table()


def check_ring_of_pieces(coding, m, thing):
    """Tell whether something is a pair of texts that shows that the share is needed."""
    return is_ring(_net_of(coding, m), thing)


def check_table_of_pieces(coding, m, r, thing):
    """Tell whether something is a table for a fraction r above 0."""
    return is_table(_net_of(coding, m), VIEW_OF_PIECES, r, thing)


def best_cuts(coding, text, most):
    """The least number of bits of pieces with at most so many letters, and the least tuple of places that has it."""
    check_text(coding, text)
    if not is_integer(most) or most < 1:
        raise BadNumber("most")
    if text == "":
        return (coding.price(END), ())
    bits, ends = _best_ends(coding, text, most)
    cuts = []
    at = ends[0]
    while at < len(text):
        cuts.append(at)
        at = ends[at]
    return (bits, tuple(cuts))


def _cut(coding, text, m):
    """The list of the pieces of m letters of a text; that of the empty text is empty."""
    check_text(coding, text)
    check_number(m, 1, MOST_LETTERS, "m")
    return [text[at:at + m] for at in range(0, max(1, len(text)), m)]


def _net_of(coding, m):
    """The net of all views of pieces."""
    check_number(m, 1, MOST_LETTERS, "m")
    cutter = Cutter(coding, m)
    return Net(coding.letters, FIRST_VIEW, cutter.moved)


def _best_ends(coding, text, most):
    """The least number of bits of pieces, and for each place but the last one the end of a piece that begins there."""
    steps = [[(distance_of(command), price, behind) for command, price, behind in row]
             for row in steps_of(prices_of(coding), text)]
    # The least number of bits for the letters from each place on.
    sums = [0] * (len(text) + 1)
    ends = [len(text)] * len(text)
    for begin in reversed(range(len(text))):
        last = min(len(text), begin + most)
        costs = _costs_of_piece(steps, begin, last)
        # Of equals the first end is taken; a cut where none is needed is never one of them, for its "end" costs more.
        total, ends[begin] = min([(costs[end - begin] + sums[end], end) for end in range(begin + 1, last + 1)])
        sums[begin] = total + coding.price(END)
    return (sums[0], ends)


def _costs_of_piece(steps, begin, last):
    """The least sums of prices from the begin of a piece to each place up to the last one."""
    sums = [0] + [None] * (last - begin)
    for at in range(begin, last):
        base = sums[at - begin]
        for distance, price, behind in steps[at]:
            if distance <= at - begin and behind <= last:
                before = sums[behind - begin]
                if before is None or base + price < before:
                    sums[behind - begin] = base + price
    return sums
