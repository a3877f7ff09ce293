"""Formats: the letters of texts, and the words that commands are written as."""

from leastfile.basics import ALPHABET, END, distance_of, fraction, is_between, is_bits, is_command, reach_of
from leastfile.errors import BadFormat, NoCommand

MOST_LETTERS = 4
MOST_COMMANDS = 40
MOST_BITS = 12


class Format:
    """Letters, and a word of bits for each command."""

    def __init__(self, letters, words):
        if not are_letters(letters):
            raise BadFormat("letters")
        if not _are_words(letters, words):
            raise BadFormat("words")
        self.letters = letters
        self._words = {command: words[command] for command in in_order(letters, words)}
        self.window = max([distance_of(command) for command in self._words])
        self.longest = max([reach_of(command) for command in self._words])

    @property
    def words(self):
        """A new dict from the commands to their words."""
        return {command: self._words[command] for command in self._words}

    def __eq__(self, other):
        return isinstance(other, Format) and self.letters == other.letters and self._words == other._words

    def has(self, command):
        """Tell whether something is a command of the format."""
        return is_command(self.letters, command) and command in self._words

    def price(self, command):
        """The number of bits of a command's word."""
        if not self.has(command):
            raise NoCommand()
        return len(self._words[command])

    def commands(self):
        """The list of the commands, in their order."""
        return list(self._words)


def coded(letters, prices):
    """The format whose words have the lengths of prices and follow one another as numbers."""
    if not are_letters(letters):
        raise BadFormat("letters")
    if not _are_prices(letters, prices):
        raise BadFormat("prices")
    return Format(letters, _words_for(letters, prices))


def room(coding):
    """1 less the sum of 2 ** -price over all commands, a fraction."""
    whole = 1 << MOST_BITS
    return fraction(whole - _parts_taken([coding.price(command) for command in coding.commands()]), whole)


def are_letters(thing):
    """Tell whether something is a string of 1 to 4 different letters, ascending."""
    if not isinstance(thing, str) or not 1 <= len(thing) <= MOST_LETTERS:
        return False
    return thing == "".join([letter for letter in ALPHABET if letter in thing])


def in_order(letters, commands):
    """The list of some letters, the copies among some commands, a list or the keys of a dict, and "end", in order."""
    return list(letters) + sorted([command for command in commands if isinstance(command, tuple)]) + [END]


def fit(prices):
    """Tell whether words with the lengths of a list of prices can be found: the sum of 2 ** -price is at most 1."""
    return _parts_taken(prices) <= 1 << MOST_BITS


def _are_words(letters, thing):
    """Tell whether something is a dict of words for the commands of a format with these letters."""
    if not _has_commands(letters, thing):
        return False
    words = list(thing.values())
    if not all([is_bits(word) and 1 <= len(word) <= MOST_BITS for word in words]):
        return False
    return _none_begins_another(words)


def _are_prices(letters, thing):
    """Tell whether something is a dict of prices for which words can be found."""
    if not _has_commands(letters, thing):
        return False
    prices = list(thing.values())
    return all([is_between(price, 1, MOST_BITS) for price in prices]) and fit(prices)


def _has_commands(letters, thing):
    """Tell whether something is a dict whose keys are the commands of a format with these letters."""
    if not isinstance(thing, dict) or len(thing) > MOST_COMMANDS:
        return False
    if not all([is_command(letters, key) for key in thing]):
        return False
    return END in thing and all([letter in thing for letter in letters])


def _none_begins_another(words):
    """Tell whether no word begins another one, or is the same."""
    ordered = sorted(words)
    # In this order a word that others begin with stands just ahead of one of them.
    return not any([after.startswith(word) for word, after in zip(ordered, ordered[1:])])


def _parts_taken(prices):
    """The sum of 2 ** -price, in parts of which 2 ** 12 make 1."""
    return sum([(1 << MOST_BITS) >> price for price in prices])


def _words_for(letters, prices):
    """The words that the commands get for their prices, a dict."""
    words = {}
    number = 0
    bits = 0
    commands = in_order(letters, prices)
    for price, place in sorted([(prices[command], place) for place, command in enumerate(commands)]):
        number = number << (price - bits)
        words[commands[place]] = f"{number:b}".zfill(price)
        number += 1
        bits = price
    return words
