"""Copies that can stand in a text, and the steps that lead through it."""

from leastfile.basics import check_number, check_text


def copies(coding, text, at):
    """The ascending list of the copies that can stand at a place of a text."""
    check_text(coding, text)
    check_number(at, 0, len(text), "at")
    return standing(coding.commands(), text, at)


def standing(commands, text, at):
    """The copies among some commands, a list or the keys of a dict, that can stand at a place, in the same order."""
    return [command for command in commands if isinstance(command, tuple) and _can_stand(command, text, at)]


def prices_of(coding):
    """A dict from the commands of a format, in their order, to their prices."""
    words = coding.words
    return {command: len(words[command]) for command in coding.commands()}


def steps_at(prices, text, at):
    """The steps from a place but the last one: triples (command, price, place behind), in the order of commands."""
    letter = text[at]
    steps = [(letter, prices[letter], at + 1)]
    for command in standing(prices, text, at):
        steps.append((command, prices[command], at + command[0]))
    return steps


def steps_of(prices, text, before=""):
    """A list of the steps from each place of a text but the last one, if the letters of before stand ahead of it."""
    begin = len(before)
    whole = before + text
    rows = [steps_at(prices, whole, at) for at in range(begin, len(whole))]
    return [[(command, price, behind - begin) for command, price, behind in row] for row in rows]


def steps_ending(prices, text):
    """The steps that end at the last place of a text: pairs (reach, price)."""
    steps = [(1, prices[text[-1]])]
    for command in prices:
        if isinstance(command, tuple) and _can_stand(command, text, len(text) - command[0]):
            steps.append((command[0], prices[command]))
    return steps


def sums_to_end(steps):
    """For each place, the least sum of prices of steps from there to the last place."""
    sums = [0] * (len(steps) + 1)
    for at in reversed(range(len(steps))):
        sums[at] = min([price + sums[behind] for command, price, behind in steps[at]])
    return sums


def _can_stand(copy, text, at):
    """Tell whether a copy reaches back into the text, ends in it and puts just the letters that stand there."""
    length, distance = copy
    source = at - distance
    if source < 0 or at + length > len(text):
        return False
    return text[at:at + length] == text[source:source + length]
