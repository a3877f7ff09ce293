"""Rules that pack a text from left to right."""

from leastfile.basics import END, MOST_DISTANCE, check_number, check_text, is_between, is_integer
from leastfile.basics import last_letters, reach_of
from leastfile.copying import prices_of, standing, steps_at, steps_of, sums_to_end
from leastfile.errors import BadRule
from leastfile.shortest import least

KINDS = ("longest", "cheapest", "lazy", "ahead")
# Each reach from 1 to 8 divides it, so that prices for each letter are compared as integers.
PARTS = 840


class Rule:
    """A rule: one of the four kinds, and for "ahead" the number of letters that it looks at."""

    def __init__(self, kind, ahead=0):
        if kind not in KINDS:
            raise BadRule("kind")
        if not _can_look(kind, ahead):
            raise BadRule("ahead")
        self.kind = kind
        self.ahead = ahead

    def __eq__(self, other):
        return isinstance(other, Rule) and self.kind == other.kind and self.ahead == other.ahead

    def sight(self, coding):
        """The number of letters that the choice hangs on, where so many are still to come."""
        if self.kind == "ahead":
            return self.ahead
        if self.kind == "lazy":
            return coding.longest + 1
        return coding.longest


def packed(coding, rule, text):
    """The file that a rule makes of a text."""
    check_text(coding, text)
    words = coding.words
    prices = prices_of(coding)
    found = []
    at = 0
    while at < len(text):
        command = choice(prices, rule, text, at)
        found.append(words[command])
        at += reach_of(command)
    return "".join(found) + words[END]


def taken(coding, rule, text, at):
    """The command that a rule takes at a place of a text."""
    check_text(coding, text)
    check_number(at, 0, len(text), "at")
    if at == len(text):
        return END
    return choice(prices_of(coding), rule, text, at)


def loss(coding, rule, text):
    """By how many bits a rule's file of a text is above the least number."""
    return len(packed(coding, rule, text)) - least(coding, text)


def choice(prices, rule, text, at):
    """The command that a rule takes at a place but the last one, for a format's prices in their order."""
    if rule.kind == "longest":
        return _longest(prices, text, at)
    if rule.kind == "cheapest":
        return _cheapest(prices, text, at)
    if rule.kind == "lazy":
        return _lazy(prices, text, at)
    return _looking_ahead(prices, text, at, rule.ahead)


def _can_look(kind, ahead):
    """Tell whether a rule of this kind can look so many letters ahead."""
    if kind == "ahead":
        return is_between(ahead, 1, 8)
    return is_integer(ahead) and ahead == 0


def _longest(prices, text, at):
    """The choice of "longest"."""
    found = standing(prices, text, at)
    if not found:
        return text[at]
    return min(found, key=lambda copy: (-copy[0], prices[copy], copy[1]))


def _cheapest(prices, text, at):
    """The choice of "cheapest"."""
    # Of equals min takes the first one, and the steps stand in the order of commands.
    step = min(steps_at(prices, text, at), key=lambda each: (each[1] * (PARTS // (each[2] - at)), at - each[2]))
    return step[0]


def _lazy(prices, text, at):
    """The choice of "lazy"."""
    here = _greatest_length(prices, text, at)
    if 0 < here < _greatest_length(prices, text, at + 1):
        return text[at]
    return _longest(prices, text, at)


def _greatest_length(prices, text, at):
    """The greatest length of the copies that can stand at a place, 0 if there are none."""
    return max([length for length, distance in standing(prices, text, at)], default=0)


def _looking_ahead(prices, text, at, ahead):
    """The choice of "ahead"."""
    # No copy reaches further back, and no row goes beyond the last one of the letters ahead.
    steps = steps_of(prices, text[at:at + ahead], last_letters(text[:at], MOST_DISTANCE))
    sums = sums_to_end(steps)
    fitting = [step for step in steps[0] if step[1] + sums[step[2]] == sums[0]]
    # Of equals min takes the first one, and the steps stand in the order of commands.
    return min(fitting, key=lambda step: (-step[2], step[1]))[0]
