"""Narrower formats: what it costs to leave out the copies that reach far back, or put many letters."""

from leastfile.basics import distance_of, is_copy, is_integer
from leastfile.errors import BadNumber
from leastfile.formats import Format
from leastfile.pairs import share_of


def narrowed(coding, window):
    """The format without all copies whose distance is above a window."""
    _check_from_0(window, "window")
    words = coding.words
    kept = [command for command in words if distance_of(command) <= window]
    return Format(coding.letters, {command: words[command] for command in kept})


def shortened(coding, longest):
    """The format without all copies whose length is above a number."""
    _check_from_0(longest, "longest")
    words = coding.words
    kept = [command for command in words if not is_copy(command) or command[0] <= longest]
    return Format(coding.letters, {command: words[command] for command in kept})


def by_window(coding):
    """The list of the pairs (window, share) for each window from 0 to the format's own one."""
    return [(window, share_of(narrowed(coding, window), coding)) for window in range(coding.window + 1)]


def by_longest(coding):
    """The list of the pairs (longest, share) for each longest from 1 to the format's own one."""
    return [(longest, share_of(shortened(coding, longest), coding)) for longest in range(1, coding.longest + 1)]


def least_window(coding, r):
    """The least window whose share is at most r."""
    return _first_within(by_window(coding), r)


def least_longest(coding, r):
    """The least longest whose share is at most r."""
    return _first_within(by_longest(coding), r)


def _check_from_0(number, part):
    """Raise BadNumber for what is not an integer from 0 on."""
    if not is_integer(number) or number < 0:
        raise BadNumber(part)


def _first_within(pairs, r):
    """The first number of pairs (number, share) whose share is at most r."""
    return [number for number, share in pairs if share[0] * r[1] <= r[0] * share[1]][0]
