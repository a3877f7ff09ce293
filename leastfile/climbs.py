"""Climbs: the greatest sums of weights along the ways from the first view of a net."""


class Climb:
    """For a fraction r, the weight of a letter at a view is what is paid there less r times what is gained.

    All weights are told as integers, times the bottom of r.
    """

    def __init__(self, net, r):
        top, bottom = r
        # For each view and each letter: the number of the next view, and the weight.
        self.rows = [[(behind, bottom * paid - top * gained) for behind, paid, gained in row] for row in net.rows]
        # For each view the greatest sum of weights over all texts that lead to it, if there are no rings.
        self.sums = [0] + [None] * (len(self.rows) - 1)
        # Rings whose weights have a sum above 0, if there are any: lists of pairs (view, number of the letter).
        self.rings = []
        # For each view the pair (view, number of the letter) from which its sum comes.
        self._origins = [None] * len(self.rows)
        grown = [0]
        while grown and not self.rings:
            grown = self._grow(grown)
            self.rings = self._rings_among_origins()

    def _grow(self, fresh):
        """Follow all letters from some views; return the list of the views whose sums have grown by it."""
        grown = {}
        for number in fresh:
            total = self.sums[number]
            for at, (behind, weight) in enumerate(self.rows[number]):
                if self.sums[behind] is None or total + weight > self.sums[behind]:
                    self.sums[behind] = total + weight
                    self._origins[behind] = (number, at)
                    grown[behind] = True
        return list(grown)

    def _rings_among_origins(self):
        """The rings that the origins close; a sum that has helped to make itself greater shows a sum above 0."""
        marks = [None] * len(self._origins)
        rings = []
        for begin in range(len(marks)):
            number = begin
            while marks[number] is None and self._origins[number] is not None:
                marks[number] = begin
                number = self._origins[number][0]
            if marks[number] == begin:
                rings.append(self._ring_to(number))
        return rings

    def _ring_to(self, number):
        """The ring of origins that ends at a view, as it is walked."""
        ring = [self._origins[number]]
        while ring[-1][0] != number:
            ring.append(self._origins[ring[-1][0]])
        return ring[::-1]


def least_text_to(net, climb, wanted):
    """The least text that leads to a wanted view with the greatest sum for it; wanted has a flag for each view."""
    texts = {0: ""}
    order = [0]
    at = 0
    # Such texts have just the letters on which the greatest sums come from one another.
    while not wanted[order[at]]:
        number = order[at]
        for letter, (behind, weight) in zip(net.letters, climb.rows[number]):
            if behind not in texts and climb.sums[number] + weight == climb.sums[behind]:
                texts[behind] = texts[number] + letter
                order.append(behind)
        at += 1
    return texts[order[at]]
