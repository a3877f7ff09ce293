"""Best codes: the prices of commands with which some texts need the fewest bits."""

from leastfile.basics import END, check_number, check_texts, is_copy
from leastfile.copying import steps_of
from leastfile.errors import BadCopies, BadFormat, BadTexts
from leastfile.formats import are_letters, coded, fit, in_order
from leastfile.shortest import least

MOST_COMMANDS = 5
MOST_TEXTS = 6
MOST_PRICE = 5


def best_prices(letters, copies, texts, most):
    """The least number of bits that texts need together, and the least row of prices that reaches it, or None."""
    if not are_letters(letters):
        raise BadFormat("letters")
    _check_copies(letters, copies)
    if not isinstance(texts, list) or not 1 <= len(texts) <= MOST_TEXTS:
        raise BadTexts()
    check_texts(_bare(letters), texts)
    check_number(most, 1, MOST_PRICE, "most")
    commands = in_order(letters, copies)
    # No row is better than one that costs the same and comes ahead of it.
    best = None
    steps = _steps_of_all(commands, texts)
    for row in _rows_of_prices(len(commands), most):
        bits = sum([_least_sum(each, row) for each in steps])
        if best is None or bits < best[0]:
            best = (bits, row)
    if best is None:
        return None
    return (best[0], {command: price for command, price in zip(commands, best[1])})


def total(coding, texts):
    """The sum of the least numbers of bits of texts."""
    check_texts(coding, texts)
    return sum([least(coding, text) for text in texts])


def is_best(coding, texts, most):
    """Tell whether no prices from 1 to most, for the same commands, have a lesser sum."""
    best = best_prices(coding.letters, [copy for copy in coding.commands() if is_copy(copy)], texts, most)
    return best is None or total(coding, texts) <= best[0]


def _check_copies(letters, thing):
    """Raise BadCopies for what is not a list of different copies, or of too many beside letters and "end"."""
    if not isinstance(thing, list) or not all([is_copy(item) for item in thing]):
        raise BadCopies()
    if len({copy: True for copy in thing}) < len(thing) or len(letters) + len(thing) + 1 > MOST_COMMANDS:
        raise BadCopies()


def _bare(letters):
    """A format with letters and without copies."""
    return coded(letters, {command: MOST_PRICE for command in list(letters) + [END]})


def _rows_of_prices(many, most):
    """All rows of so many prices from 1 to most for which words can be found, ascending."""
    rows = [()]
    for _ in range(many):
        rows = [row + (price,) for row in rows for price in range(1, most + 1)]
    return [row for row in rows if fit(row)]


def _steps_of_all(commands, texts):
    """For each text and each of its places, "end" at the last one, pairs: the number of a command, the place behind."""
    numbers = {command: number for number, command in enumerate(commands)}
    found = []
    for text in texts:
        steps = [[(number, behind) for _, number, behind in row] for row in steps_of(numbers, text)]
        found.append(steps + [[(numbers[END], len(text) + 1)]])
    return found


def _least_sum(steps, row):
    """The least sum of the prices of a row for the commands that lead through steps."""
    sums = [0] * (len(steps) + 1)
    for at in reversed(range(len(steps))):
        sums[at] = min([row[number] + sums[behind] for number, behind in steps[at]])
    return sums[0]
