"""Rates: how many bits of shortest files texts need for each letter, at most and at least."""

from leastfile.basics import END, check_number, is_integer, last_letters
from leastfile.errors import BadFlag, BadNumber
from leastfile.gauges import Gauge
from leastfile.nets import Net
from leastfile.rings import Measure, is_ring

FIRST_VIEW = ("", ())
MOST_TOLD = 100


class Teller:
    """A format whose least costs are told letter by letter; as numbers below 0, where the least ones are asked for."""

    def __init__(self, coding, dear):
        self._gauge = Gauge(coding)
        self._sign = 1 if dear else -1
        self._most = coding.window + coding.longest - 1

    def moved(self, view, letter):
        """The next view behind a letter, what is gained, and the number of letters."""
        tail, dearer = view
        text = tail + letter
        gained, dearer = self._gauge.gained(text, dearer)
        return ((last_letters(text, self._most), dearer), self._sign * gained, 1)


def dearest_at(coding, length):
    """The greatest least number of bits of all texts with a length, and the least text that has it."""
    check_number(length, 0, MOST_TOLD, "length")
    top, text = _greatest_at(_net_of(coding, True), length)
    return (coding.price(END) + top, text)


def cheapest_at(coding, length):
    """The least one of the least numbers of bits of all texts with a length, and the least text that has it."""
    check_number(length, 0, MOST_TOLD, "length")
    top, text = _greatest_at(_net_of(coding, False), length)
    return (coding.price(END) - top, text)


def texts_with(coding, length, bits):
    """The number of the texts with a length whose least number of bits is told."""
    check_number(length, 0, MOST_TOLD, "length")
    if not is_integer(bits) or bits < 0:
        raise BadNumber("bits")
    rows = _rows_of_kinds(_net_of(coding, True))
    # For each kind of views, the numbers of the texts that lead there, by what they have gained.
    counts = {0: {0: 1}}
    for _ in range(length):
        counts = _one_letter_on(rows, counts)
    return sum([by_sum.get(bits - coding.price(END), 0) for by_sum in counts.values()])


def dearest_rate(coding):
    """The least fraction r such that, for all texts, least is at most r for each letter and some bits."""
    return Measure(_net_of(coding, True)).quotient


def cheapest_rate(coding):
    """The greatest fraction r such that, for all texts, least is at least r for each letter less some bits."""
    top, bottom = Measure(_net_of(coding, False)).quotient
    return (-top, bottom)


def ring_of_rate(coding, dear):
    """A pair of texts (begin, round) that shows that a rate is reached."""
    _check_flag(dear)
    return Measure(_net_of(coding, dear)).ring()


def check_ring_of_rate(coding, dear, thing):
    """Tell whether something is a pair of texts that shows that a rate is reached."""
    _check_flag(dear)
    return is_ring(_net_of(coding, dear), thing)


def _check_flag(thing):
    """Raise BadFlag for what is neither True nor False."""
    if not isinstance(thing, bool):
        raise BadFlag()


def _net_of(coding, dear):
    """The net of all views of a format."""
    teller = Teller(coding, dear)
    return Net(coding.letters, FIRST_VIEW, teller.moved)


def _greatest_at(net, length):
    """The greatest sum of all texts with a length, and the least text that has it."""
    # For each number of letters still to come, the greatest sums from each view.
    sums = [[0] * len(net.views)]
    for _ in range(length):
        later = sums[-1]
        sums.append([max([paid + later[behind] for behind, paid, _ in row]) for row in net.rows])
    letters = []
    number = 0
    for left in reversed(range(length)):
        wanted = sums[left + 1][number]
        steps = list(zip(net.letters, net.rows[number]))
        fitting = [(letter, behind) for letter, (behind, paid, _) in steps if paid + sums[left][behind] == wanted]
        letter, number = fitting[0]
        letters.append(letter)
    return (sums[length][0], "".join(letters))


def _rows_of_kinds(net):
    """For each kind of views, where its letters lead: pairs (kind, gained); the first view is of the kind 0.

    Views are of one kind if letters gain the same from them on and on, in any order; there are far fewer kinds.
    """
    kinds = [0] * len(net.rows)
    many = 0
    found = {0: 0}
    while len(found) > many:
        many = len(found)
        rows = [tuple(sorted([(kinds[behind], gained) for behind, gained, _ in row])) for row in net.rows]
        found = {}
        kinds = [found.setdefault((kind, row), len(found)) for kind, row in zip(kinds, rows)]
    return {kind: [(kinds[behind], gained) for behind, gained, _ in row] for kind, row in zip(kinds, net.rows)}


def _one_letter_on(rows, counts):
    """The numbers of texts behind one letter more, by kinds of views and by what they have gained."""
    later = {}
    for kind in counts:
        for behind, gained in rows[kind]:
            by_sum = later.setdefault(behind, {})
            for total, many in counts[kind].items():
                by_sum[total + gained] = by_sum.get(total + gained, 0) + many
    return later
