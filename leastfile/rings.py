"""Rings of a net and tables for it: what shows how great the quotient of paid and gained sums can be."""

from leastfile.basics import fraction, is_fraction, is_of_form, is_pair
from leastfile.climbs import Climb

MOST_RING = 3000
# Below all quotients, also where what is paid is told as numbers below 0: at most 12 bits are paid for a letter,
# and at least 1/8 of a bit is gained for each letter of a ring.
LOW = (-97, 1)


class Measure:
    """The greatest quotient of a net, with a ring and a climb that show it."""

    def __init__(self, net):
        self.net = net
        self.quotient = LOW
        self._ring = []
        self._climb = Climb(net, self.quotient)
        while self._climb.rings:
            for ring in self._climb.rings:
                self._look_at(ring)
            self._climb = Climb(net, self.quotient)

    def ring(self):
        """A pair of texts (begin, round) that shows that the quotient is reached."""
        begin = self.net.text_to(self._ring[0][0])
        return (begin, "".join([self.net.letters[at] for number, at in self._ring]))

    def table(self):
        """A list of pairs (view, height) that shows that the quotient is never exceeded."""
        bottom = self.quotient[1]
        return [(view, fraction(total, bottom)) for view, total in zip(self.net.views, self._climb.sums)]

    def _look_at(self, ring):
        """Keep a ring if its quotient is greater than that of the kept one."""
        steps = [self.net.rows[number][at] for number, at in ring]
        found = fraction(sum([paid for behind, paid, gained in steps]), sum([gained for behind, paid, gained in steps]))
        if found[0] * self.quotient[1] > self.quotient[0] * found[1]:
            self.quotient = found
            self._ring = ring


def is_ring(net, thing):
    """Tell whether something is a pair (begin, round) that shows that the greatest quotient of a net is reached."""
    if not is_pair(thing) or not all([_can_be_walked(net, text) for text in thing]) or thing[1] == "":
        return False
    first = net.walked(0, thing[0])[0]
    last, paid, gained = net.walked(first, thing[1])
    return first == last and fraction(paid, gained) == Measure(net).quotient


def is_table(net, form, r, thing):
    """Tell whether something is a table for a net, whose views are of a form, and a fraction r."""
    if not isinstance(thing, list) or not all([_is_row(form, row) for row in thing]):
        return False
    heights = {view: height for view, height in thing}
    if len(thing) != len(net.views) or not all([view in heights for view in net.views]):
        return False
    ordered = [heights[view] for view in net.views]
    return ordered[0] == (0, 1) and all([_holds(net, r, ordered, number) for number in range(len(ordered))])


def excess(r, low, high, paid, gained):
    """A number with the sign of: a height, less another one and what is paid, and r times what is gained more."""
    due = (low[0] * r[1] + (paid * r[1] - r[0] * gained) * low[1], low[1] * r[1])
    return high[0] * due[1] - due[0] * high[1]


def _can_be_walked(net, thing):
    """Tell whether something is a text of the letters of a net that is not too long."""
    if not isinstance(thing, str) or len(thing) > MOST_RING:
        return False
    return all([letter in net.letters for letter in thing])


def _is_row(form, thing):
    """Tell whether something is a pair of a tuple of a form and a fraction."""
    return is_pair(thing) and is_of_form(thing[0], form) and is_fraction(thing[1])


def _holds(net, r, heights, number):
    """Tell whether the heights rise enough on each letter from a view."""
    low = heights[number]
    return all([excess(r, low, heights[behind], paid, gained) >= 0 for behind, paid, gained in net.rows[number]])
