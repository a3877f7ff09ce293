"""A desk that keeps formats under names and works by lines."""

from leastfile.compared import unlike_text, without
from leastfile.errors import NoName, NoUndo
from leastfile.files import text_of
from leastfile.lines import parsed, word_of
from leastfile.losses import greatest_loss, worst_text
from leastfile.pairs import share_of
from leastfile.rules import Rule, loss, packed
from leastfile.shares import share
from leastfile.shortest import least, shortest
from leastfile.texts import read_format

DONE = "ok"
NEVER = "never"
NONE = "none"


def _formatted(formats, values):
    """The name that a format line sets, and the format."""
    name, rest = values
    return (name, read_format(rest))


def _dropped(formats, values):
    """The name that a drop line clears, and None."""
    return (values[0], None)


def _left_out(formats, values):
    """The name that a without line sets, and the format."""
    name, new, copy = values
    return (new, without(formats[name], copy))


def _least(formats, values):
    """The answer to a least line."""
    name, text = values
    return str(least(formats[name], text))


def _file(formats, values):
    """The answer to a file line."""
    name, text = values
    return shortest(formats[name], text)


def _read(formats, values):
    """The answer to a read line."""
    name, bits = values
    return word_of(text_of(formats[name], bits))


def _pack(formats, values):
    """The answer to a pack line."""
    name, rule, text = values
    return packed(formats[name], rule, text)


def _loss(formats, values):
    """The answer to a loss line."""
    name, rule, text = values
    return str(loss(formats[name], rule, text))


def _share(formats, values):
    """The answer to a share line."""
    name, other = values
    if isinstance(other, Rule):
        top, bottom = share(formats[name], other)
    else:
        top, bottom = share_of(formats[name], formats[other])
    return f"{top}/{bottom}"


def _worst(formats, values):
    """The answer to a worst line."""
    name, rule = values
    most = greatest_loss(formats[name], rule)
    if most is None:
        return NEVER
    return f"{most} {word_of(worst_text(formats[name], rule))}"


def _unlike(formats, values):
    """The answer to an unlike line."""
    name, other = values
    text = unlike_text(formats[name], formats[other])
    if text is None:
        return NEVER
    return word_of(text)


def _names(formats, values):
    """The answer to a names line."""
    if not formats:
        return NONE
    return " ".join(sorted(formats))


CHANGES = {"format": _formatted, "drop": _dropped, "without": _left_out}
ANSWERS = {
    "least": _least, "file": _file, "read": _read, "pack": _pack, "loss": _loss,
    "share": _share, "worst": _worst, "unlike": _unlike, "names": _names,
}


class Desk:
    """Formats under names, and what is needed to take the last changes back."""

    def __init__(self):
        self._formats = {}
        # For each line that can be taken back: the name, and the format that it had ahead of the line, or None.
        self._changes = []

    def tell(self, line):
        """Do a line and return its answer."""
        word, parts = parsed(line)
        for kind, value in parts:
            if kind == "known" and value not in self._formats:
                raise NoName(value)
        values = [value for kind, value in parts]
        if word == "undo":
            return self._undo()
        if word in CHANGES:
            change = CHANGES[word]
            name, coding = change(self._formats, values)
            self._changes.append((name, self._formats.get(name)))
            self._keep(name, coding)
            return DONE
        answer = ANSWERS[word]
        return answer(self._formats, values)

    def depth(self):
        """The number of lines that can be taken back."""
        return len(self._changes)

    def coding(self, name):
        """The format of a name."""
        if not isinstance(name, str) or name not in self._formats:
            raise NoName(name)
        return self._formats[name]

    def _undo(self):
        """Take the last change back."""
        if not self._changes:
            raise NoUndo()
        name, coding = self._changes.pop()
        self._keep(name, coding)
        return DONE

    def _keep(self, name, coding):
        """Set the format of a name, or clear the name for None."""
        if coding is None:
            del self._formats[name]
        else:
            self._formats[name] = coding
