"""What a command is, what it puts, and the checks that many files ask for."""

from math import gcd

from leastfile.errors import BadNumber, BadText, BadTexts, BadView

ALPHABET = "abcdefghijklmnopqrstuvwxyz"
END = "end"
MOST_LENGTH = 8
MOST_DISTANCE = 8


def is_integer(thing):
    """Tell whether something is an int that is not a bool."""
    return isinstance(thing, int) and not isinstance(thing, bool)


def is_between(thing, low, high):
    """Tell whether something is an integer from low to high."""
    return is_integer(thing) and low <= thing <= high


def is_bits(thing):
    """Tell whether something is a string of the characters 0 and 1, perhaps an empty one."""
    return isinstance(thing, str) and thing.strip("01") == ""


def is_text(thing):
    """Tell whether something is a string of letters, whatever the format, perhaps an empty one."""
    return isinstance(thing, str) and thing.strip(ALPHABET) == ""


def is_pair(thing):
    """Tell whether something is a tuple of two things."""
    return isinstance(thing, tuple) and len(thing) == 2


def is_fraction(thing):
    """Tell whether something is a pair (top, bottom) of integers in lowest terms, bottom at least 1."""
    if not is_pair(thing) or not is_integer(thing[0]) or not is_integer(thing[1]):
        return False
    return thing[1] >= 1 and gcd(thing[0], thing[1]) == 1


def is_of_form(thing, form):
    """Tell whether something is a tuple of texts, integers and tuples of integers, as a form names them one by one."""
    if not isinstance(thing, tuple) or len(thing) != len(form):
        return False
    return all([_is_of_kind(item, kind) for item, kind in zip(thing, form)])


def is_copy(thing):
    """Tell whether something is a pair (length, distance) that is a copy."""
    if not is_pair(thing):
        return False
    return is_between(thing[0], 2, MOST_LENGTH) and is_between(thing[1], 1, MOST_DISTANCE)


def is_command(letters, thing):
    """Tell whether something is one of some letters, a copy or "end"."""
    # This comes ahead of any look into a dict: (2, True) would be found there as (2, 1).
    if isinstance(thing, str):
        return thing == END or (len(thing) == 1 and thing in letters)
    return is_copy(thing)


def distance_of(command):
    """How many letters must stand ahead of a command."""
    if isinstance(command, tuple):
        return command[1]
    return 0


def reach_of(command):
    """How many letters a command puts."""
    if isinstance(command, tuple):
        return command[0]
    if command == END:
        return 0
    return 1


def letters_put(letters, command):
    """The list of the letters that a command puts behind a list of letters."""
    if command == END:
        return []
    if isinstance(command, str):
        return [command]
    length, distance = command
    source = letters[len(letters) - distance:]
    # A copy longer than its distance goes on with what it has put itself: the source again.
    return [source[number % distance] for number in range(length)]


def check_text(coding, text):
    """Raise BadText for what is not a text of the format's letters."""
    if not isinstance(text, str):
        raise BadText(-1)
    for place, letter in enumerate(text):
        if letter not in coding.letters:
            raise BadText(place)


def check_letter(coding, letter):
    """Raise BadText for what is not one letter of the format."""
    if not isinstance(letter, str) or len(letter) != 1 or letter not in coding.letters:
        raise BadText(-1)


def check_texts(coding, texts):
    """Raise BadTexts for what is not a list of strings, BadText for the first one with a wrong letter."""
    if not isinstance(texts, list) or not all([isinstance(text, str) for text in texts]):
        raise BadTexts()
    for text in texts:
        check_text(coding, text)


def check_view(view, form):
    """Raise BadView for what is not a tuple of a form."""
    if not is_of_form(view, form):
        raise BadView()


def check_number(number, low, high, part):
    """Raise BadNumber for what is not an integer from low to high."""
    if not is_between(number, low, high):
        raise BadNumber(part)


def last_letters(text, many):
    """The last letters of a text, or all if there are fewer."""
    return text[max(0, len(text) - many):]


def fraction(top, bottom):
    """The fraction top / bottom in lowest terms, for a bottom above 0."""
    shared = gcd(top, bottom)
    return (top // shared, bottom // shared)


def _is_of_kind(thing, kind):
    """Tell whether something is a text, an integer or a tuple of integers, as kind names it."""
    if kind == "text":
        return is_text(thing)
    if kind == "integer":
        return is_integer(thing)
    return isinstance(thing, tuple) and all([is_integer(item) for item in thing])
