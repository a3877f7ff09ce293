"""Texts that tell formats and ways, and are read again."""

from leastfile.basics import ALPHABET, END, MOST_DISTANCE, MOST_LENGTH, distance_of, is_command, reach_of
from leastfile.errors import BadFormat, BadLine
from leastfile.formats import Format


def format_text(coding):
    """The text of a format."""
    words = coding.words
    rows = [f"{_name_of(command)}={words[command]}" for command in coding.commands()]
    return "; ".join([f"letters {coding.letters}"] + rows)


def read_format(text):
    """The format with a text."""
    if not isinstance(text, str):
        raise BadLine()
    rows = text.split("; ")
    letters = rows[0].removeprefix("letters ")
    names = _commands_by_name()
    words = {}
    for row in rows[1:]:
        name, _, word = row.partition("=")
        if name not in names:
            raise BadLine()
        words[names[name]] = word
    try:
        coding = Format(letters, words)
    except BadFormat:
        raise BadLine()
    # Whatever else was let here, as another order or a command told twice, is not what format_text returns.
    if format_text(coding) != text:
        raise BadLine()
    return coding


def way_text(way):
    """The text of a way."""
    if not _is_way(way):
        raise BadLine()
    return " ".join([_name_of(command) for command in way])


def read_way(text):
    """The way with a text."""
    if not isinstance(text, str):
        raise BadLine()
    if text == "":
        return []
    names = _commands_by_name()
    words = text.split(" ")
    if not all([word in names for word in words]):
        raise BadLine()
    way = [names[word] for word in words]
    if not _is_way(way):
        raise BadLine()
    return way


def copies_by_name():
    """A dict from the names of all copies that a format can have to these copies."""
    lengths = range(2, MOST_LENGTH + 1)
    distances = range(1, MOST_DISTANCE + 1)
    return {_name_of((length, distance)): (length, distance) for length in lengths for distance in distances}


def _name_of(command):
    """How a command is told in texts."""
    if isinstance(command, str):
        return command
    length, distance = command
    return f"{length}-{distance}"


def _commands_by_name():
    """A dict from the names of all commands that a format can have to these commands."""
    names = {name: name for name in list(ALPHABET) + [END]}
    names.update(copies_by_name())
    return names


def _is_way(thing):
    """Tell whether something is a list of letters and copies, none of which reaches back beyond the first letter."""
    if not isinstance(thing, list):
        return False
    ahead = 0
    for command in thing:
        if not is_command(ALPHABET, command) or command == END or distance_of(command) > ahead:
            return False
        ahead += reach_of(command)
    return True
