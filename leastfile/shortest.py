"""The shortest files of a text, and heights that show that there is no shorter one."""

from leastfile.basics import END, check_number, check_text, is_integer
from leastfile.copying import prices_of, steps_of, sums_to_end


def costs(coding, text):
    """The least sums of prices of steps from the place 0 to each place."""
    check_text(coding, text)
    # None for the places to which no step was followed yet.
    sums = [0] + [None] * len(text)
    for at, row in enumerate(steps_of(prices_of(coding), text)):
        for command, price, behind in row:
            if sums[behind] is None or sums[at] + price < sums[behind]:
                sums[behind] = sums[at] + price
    return sums


def least(coding, text):
    """The least number of bits of all files of a text."""
    return costs(coding, text)[-1] + coding.price(END)


def shortest(coding, text):
    """The least of the files with the least number of bits."""
    check_text(coding, text)
    return shortest_behind(coding, "", text)


def shortest_behind(coding, before, text):
    """The least row of words for a text and "end" with the least number of bits, if other letters stand ahead of it."""
    rows = _least_rows(coding, before, text)
    words = []
    at = 0
    while at < len(rows):
        word, at = rows[at][0]
        words.append(word)
    return "".join(words) + coding.words[END]


def how_many(coding, text):
    """The number of the files with the least number of bits."""
    check_text(coding, text)
    return _counts(_least_rows(coding, "", text))[0]


def shortest_at(coding, text, number):
    """The file with a number among those with the least number of bits, in ascending order."""
    check_text(coding, text)
    rows = _least_rows(coding, "", text)
    counts = _counts(rows)
    check_number(number, 0, counts[0] - 1, "number")
    words = []
    at = 0
    while at < len(rows):
        word, at, number = _pick(rows[at], counts, number)
        words.append(word)
    return "".join(words) + coding.words[END]


def check_heights(coding, text, bits, thing):
    """Tell whether something are heights of a text that show that its files have at least so many bits."""
    check_text(coding, text)
    if not isinstance(thing, list) or len(thing) != len(text) + 1:
        return False
    if not all([is_integer(height) for height in thing]) or thing[0] != 0:
        return False
    for at, row in enumerate(steps_of(prices_of(coding), text)):
        if any([thing[behind] > thing[at] + price for command, price, behind in row]):
            return False
    return thing[-1] + coding.price(END) >= bits


def _least_rows(coding, before, text):
    """For each place but the last one, the steps there of the shortest files: ascending pairs (word, place behind)."""
    words = coding.words
    steps = steps_of(prices_of(coding), text, before)
    sums = sums_to_end(steps)
    rows = []
    for at, row in enumerate(steps):
        kept = [step for step in row if step[1] + sums[step[2]] == sums[at]]
        # No word begins another one, so the files are ordered as the words in which they first differ.
        rows.append(sorted([(words[command], behind) for command, price, behind in kept]))
    return rows


def _counts(rows):
    """For each place, the number of ways that lead from there to the last place."""
    counts = [0] * len(rows) + [1]
    for at in reversed(range(len(rows))):
        counts[at] = sum([counts[behind] for word, behind in rows[at]])
    return counts


def _pick(row, counts, number):
    """The step that the file with this number takes, and its number among those that take it."""
    for word, behind in row[:-1]:
        if number < counts[behind]:
            return (word, behind, number)
        number -= counts[behind]
    return row[-1] + (number,)
