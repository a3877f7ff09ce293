"""The shortest files with few commands, and those that begin commands at told places."""

from leastfile.basics import END, check_number, check_text, is_between, is_integer
from leastfile.copying import prices_of, steps_of, sums_to_end
from leastfile.errors import BadNumber, BadPlaces


def least_of(coding, text, most):
    """The least number of bits of a file whose way has at most so many commands, or None."""
    check_text(coding, text)
    if not is_integer(most) or most < 0:
        raise BadNumber("most")
    # No step leads on from the last place.
    steps = steps_of(prices_of(coding), text) + [[]]
    sums = {0: 0}
    fresh = {0: 0}
    # A command more can only help behind the places that the last one has helped.
    for _ in range(min(most, len(text))):
        fresh = _lessened(steps, sums, fresh)
        sums.update(fresh)
    if len(text) not in sums:
        return None
    return sums[len(text)] + coding.price(END)


def least_through(coding, text, places):
    """The least number of bits of a file with a command that begins at each of some places."""
    check_text(coding, text)
    if not isinstance(places, list) or not all([is_between(place, 0, len(text)) for place in places]):
        raise BadPlaces()
    return _least_through(coding, text, places)


def needs(coding, text, at):
    """How many bits it costs that a command begins at a place."""
    check_text(coding, text)
    check_number(at, 0, len(text), "at")
    return _least_through(coding, text, [at]) - _least_through(coding, text, [])


def _lessened(steps, sums, fresh):
    """The lesser sums that one step from the places of fresh leads to, a dict from the places."""
    found = {}
    for at in fresh:
        for command, price, behind in steps[at]:
            total = fresh[at] + price
            if total < sums.get(behind, total + 1) and total < found.get(behind, total + 1):
                found[behind] = total
    return found


def _least_through(coding, text, places):
    """The number of least_through, for arguments that are right."""
    # For each place, the first one from there on that must be met; the last one is met by every file.
    firsts = [len(text)] * (len(text) + 1)
    for place in places:
        firsts[place] = place
    for at in reversed(range(len(text))):
        firsts[at] = min(firsts[at], firsts[at + 1])
    steps = steps_of(prices_of(coding), text)
    kept = [[step for step in row if step[2] <= first] for row, first in zip(steps, firsts[1:])]
    return sums_to_end(kept)[0] + coding.price(END)
