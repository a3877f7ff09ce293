"""Files: ways written as bits, and read again."""

from leastfile.basics import END, distance_of, is_bits, letters_put
from leastfile.errors import BadWay, Left, NoBits, TooFew
from leastfile.readers import Reader


def spread(coding, way):
    """The text that a way puts."""
    if not isinstance(way, list):
        raise BadWay(-1)
    letters = []
    for at, command in enumerate(way):
        if not coding.has(command) or command == END or distance_of(command) > len(letters):
            raise BadWay(at)
        letters.extend(letters_put(letters, command))
    return "".join(letters)


def written(coding, way):
    """The file of a way."""
    # Only for its error: a way that puts no text has no file.
    spread(coding, way)
    words = coding.words
    return "".join([words[command] for command in way + [END]])


def read(coding, bits):
    """The way whose file the bits are."""
    return _read_whole(coding, bits).way()


def text_of(coding, bits):
    """The text of the file that the bits are."""
    return _read_whole(coding, bits).text()


def _read_whole(coding, bits):
    """A reader that has taken all of the bits, which are just one file."""
    if not is_bits(bits):
        raise NoBits()
    reader = Reader(coding)
    for at, bit in enumerate(bits):
        if reader.is_whole():
            raise Left(at)
        reader.push(bit)
    if not reader.is_whole():
        raise TooFew(reader.lack())
    return reader
