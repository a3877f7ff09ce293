"""Lines for the desk, taken apart into words, names, rules, copies and texts."""

from leastfile.basics import ALPHABET
from leastfile.errors import NoLine
from leastfile.rules import KINDS, Rule
from leastfile.texts import copies_by_name

LONGEST_NAME = 8
DIGITS = "12345678"
EMPTY = "-"
# What follows the first word of a line; "known" is a name that should be there, "other" such a name or a rule.
FORMS = {
    "format": ("name", "rest"),
    "drop": ("known",),
    "without": ("known", "name", "copy"),
    "undo": (),
    "least": ("known", "text"),
    "file": ("known", "text"),
    "read": ("known", "word"),
    "pack": ("known", "rule", "text"),
    "loss": ("known", "rule", "text"),
    "share": ("known", "other"),
    "worst": ("known", "rule"),
    "unlike": ("known", "known"),
    "names": (),
}


def parsed(line):
    """The first word of a line, and the list of pairs (kind, value) of what follows it."""
    if not isinstance(line, str):
        raise NoLine()
    words = line.split(" ")
    if words[0] not in FORMS:
        raise NoLine()
    parts = []
    at = 1
    for form in FORMS[words[0]]:
        if at >= len(words):
            raise NoLine()
        kind, value, at = _part(form, words, at)
        parts.append((kind, value))
    if at < len(words):
        raise NoLine()
    return (words[0], parts)


def word_of(text):
    """How a text is told in a line."""
    if text == "":
        return EMPTY
    return text


def _part(form, words, at):
    """The part of a form that begins at a word: its kind, its value and the number of the word behind it."""
    word = words[at]
    if form == "rest":
        return (form, " ".join(words[at:]), len(words))
    if word == "":
        raise NoLine()
    if form == "rule" or (form == "other" and word in KINDS):
        rule, behind = _rule(words, at)
        return ("rule", rule, behind)
    kind = "known" if form == "other" else form
    return (kind, _value(kind, word), at + 1)


def _rule(words, at):
    """The rule that begins at a word, and the number of the word behind it."""
    kind = words[at]
    if kind not in KINDS:
        raise NoLine()
    if kind != "ahead":
        return (Rule(kind), at + 1)
    if at + 1 == len(words) or len(words[at + 1]) != 1 or words[at + 1] not in DIGITS:
        raise NoLine()
    return (Rule(kind, int(words[at + 1])), at + 2)


def _value(kind, word):
    """What a word that is not empty tells where a part of a kind stands."""
    if kind in ("known", "name"):
        if not _is_name(word):
            raise NoLine()
        return word
    if kind == "copy":
        copies = copies_by_name()
        if word not in copies:
            raise NoLine()
        return copies[word]
    if kind == "text" and word == EMPTY:
        return ""
    return word


def _is_name(word):
    """Tell whether a word that is not empty can be the name of a format."""
    return len(word) <= LONGEST_NAME and word.strip(ALPHABET) == "" and word not in KINDS
