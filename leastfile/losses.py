"""Losses: by how many bits the files of a rule are at most longer than the shortest ones."""

from leastfile.basics import check_number
from leastfile.climbs import Climb, least_text_to
from leastfile.views import Packer, net_of

MOST_TOLD = 200


def greatest_loss(coding, rule):
    """The greatest loss over all texts, or None if there is none."""
    losses = Losses(coding, rule)
    if losses.are_endless():
        return None
    return max(losses.by_view())


def worst_text(coding, rule):
    """The least text with the greatest loss, or None if there is none."""
    losses = Losses(coding, rule)
    if losses.are_endless():
        return None
    return losses.worst_text()


def loss_at(coding, rule, length):
    """The greatest loss of all texts with a length."""
    check_number(length, 0, MOST_TOLD, "length")
    net = net_of(coding, rule)
    packer = Packer(coding, rule)
    sums = {0: 0}
    for _ in range(length):
        sums = _one_letter_on(net, sums)
    return max([sums[number] + packer.rest(net.views[number]) for number in sums])


class Losses:
    """The greatest losses of the texts that lead to each view."""

    def __init__(self, coding, rule):
        self._net = net_of(coding, rule)
        self._packer = Packer(coding, rule)
        self._climb = Climb(self._net, (1, 1))

    def are_endless(self):
        """Tell whether there are losses above each number."""
        return len(self._climb.rings) > 0

    def by_view(self):
        """The list of the greatest losses of the texts that lead to the views, in their order."""
        rests = [self._packer.rest(view) for view in self._net.views]
        return [total + more for total, more in zip(self._climb.sums, rests)]

    def worst_text(self):
        """The least text with the greatest loss."""
        found = self.by_view()
        most = max(found)
        return least_text_to(self._net, self._climb, [each == most for each in found])


def _one_letter_on(net, sums):
    """The greatest sums of what is paid less what is gained behind one letter more, a dict from the views."""
    later = {}
    for number in sums:
        for behind, paid, gained in net.rows[number]:
            total = sums[number] + paid - gained
            if total > later.get(behind, total - 1):
                later[behind] = total
    return later
