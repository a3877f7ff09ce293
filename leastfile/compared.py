"""Two formats compared over all texts, and copies that a format can do without."""

from leastfile.basics import END, is_copy
from leastfile.climbs import Climb, least_text_to
from leastfile.errors import NoCommand
from leastfile.formats import Format
from leastfile.pairs import net_of_two


def unlike_text(one, other):
    """The least text with unlike least numbers of bits, or None."""
    net = net_of_two(one, other)
    if one.price(END) != other.price(END):
        return ""
    # The views stand in the order of their least texts, so the first unlike letter ends the least text.
    for number, row in enumerate(net.rows):
        for letter, (behind, gained, other_gained) in zip(net.letters, row):
            if gained != other_gained:
                return net.text_to(number) + letter
    return None


def dearest(one, other):
    """The greatest number of bits by which one needs more than other, over all texts, or None if there is none."""
    climb = Climb(net_of_two(one, other), (1, 1))
    if climb.rings:
        return None
    return max(climb.sums) + one.price(END) - other.price(END)


def dearest_text(one, other):
    """The least text with the greatest number of bits by which one needs more than other, or None."""
    net = net_of_two(one, other)
    climb = Climb(net, (1, 1))
    if climb.rings:
        return None
    most = max(climb.sums)
    return least_text_to(net, climb, [total == most for total in climb.sums])


def needless(coding):
    """The ascending list of the copies without which, each one alone, all least numbers of bits stay the same."""
    return [copy for copy in _copies_of(coding) if needed_by(coding, copy) is None]


def needed_by(coding, copy):
    """The least text that has another least number of bits without a copy, or None."""
    return unlike_text(coding, without(coding, copy))


def without(coding, copy):
    """The format without a copy."""
    if not is_copy(copy) or not coding.has(copy):
        raise NoCommand()
    words = coding.words
    del words[copy]
    return Format(coding.letters, words)


def trimmed(coding):
    """The format that is left when, from the last copy on, each one that is needless in what is left is left out."""
    left = coding
    for copy in reversed(_copies_of(coding)):
        smaller = without(left, copy)
        if unlike_text(left, smaller) is None:
            left = smaller
    return left


def _copies_of(coding):
    """The ascending list of the copies of a format."""
    return [command for command in coding.commands() if is_copy(command)]
