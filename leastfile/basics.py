"""What a command is, what it puts, and the checks that many files ask for."""

from math import gcd

from leastfile.errors import BadNumber, BadText

END = "end"
MOST_LENGTH = 8
MOST_DISTANCE = 8


def is_integer(thing):
    """Tell whether something is an int that is not a bool."""
    return isinstance(thing, int) and not isinstance(thing, bool)


def is_between(thing, low, high):
    """Tell whether something is an integer from low to high."""
    return is_integer(thing) and low <= thing <= high


def is_bits(thing):
    """Tell whether something is a string of the characters 0 and 1, perhaps an empty one."""
    return isinstance(thing, str) and thing.strip("01") == ""


def is_copy(thing):
    """Tell whether something is a pair (length, distance) that is a copy."""
    if not isinstance(thing, tuple) or len(thing) != 2:
        return False
    return is_between(thing[0], 2, MOST_LENGTH) and is_between(thing[1], 1, MOST_DISTANCE)


def is_command(letters, thing):
    """Tell whether something is one of some letters, a copy or "end"."""
    # This comes ahead of any look into a dict: (2, True) would be found there as (2, 1).
    if isinstance(thing, str):
        return thing == END or (len(thing) == 1 and thing in letters)
    return is_copy(thing)


def distance_of(command):
    """How many letters must stand ahead of a command."""
    if isinstance(command, tuple):
        return command[1]
    return 0


def reach_of(command):
    """How many letters a command puts."""
    if isinstance(command, tuple):
        return command[0]
    if command == END:
        return 0
    return 1


def letters_put(letters, command):
    """The list of the letters that a command puts behind a list of letters."""
    if command == END:
        return []
    if isinstance(command, str):
        return [command]
    length, distance = command
    source = letters[len(letters) - distance:]
    # A copy longer than its distance goes on with what it has put itself: the source again.
    return [source[number % distance] for number in range(length)]


def check_text(coding, text):
    """Raise BadText for what is not a text of the format's letters."""
    if not isinstance(text, str):
        raise BadText(-1)
    for place, letter in enumerate(text):
        if letter not in coding.letters:
            raise BadText(place)


def check_number(number, low, high, part):
    """Raise BadNumber for what is not an integer from low to high."""
    if not is_between(number, low, high):
        raise BadNumber(part)


def fraction(top, bottom):
    """The fraction top / bottom in lowest terms, for a bottom above 0."""
    shared = gcd(top, bottom)
    return (top // shared, bottom // shared)
