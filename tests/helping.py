"""What the tests share: formats, things of all kinds, and slow but sure ways to list files."""

from leastfile import errors
from leastfile.formats import Format, coded
from leastfile.readers import Reader
from leastfile.rules import Rule

GREAT = 10 ** 60 - 1


def plain():
    return coded("ab", {"a": 2, "b": 2, (2, 1): 3, (3, 2): 2, "end": 3})


def formats():
    """Formats of many kinds: no copies, one letter, four letters, loose words, all short copies."""
    loose = {"a": "0010", "c": "01", (2, 2): "000", (2, 1): "1101", (4, 1): "10", (5, 3): "11111", "end": "1100"}
    short = {"a": 3, "b": 4, "end": 5}
    for length in (2, 3, 4):
        for distance in (1, 2, 3):
            short[(length, distance)] = 4 if length == 3 else 5
    return [
        plain(),
        coded("a", {"a": 1, "end": 1}),
        coded("z", {"z": 2, "end": 2, (2, 1): 2, (8, 8): 2}),
        Format("ac", loose),
        coded("ab", short),
        coded("abcd", {"a": 2, "b": 3, "c": 3, "d": 3, "end": 4, (2, 1): 3, (3, 4): 3, (8, 2): 4}),
        coded("xy", {"x": 12, "y": 1, "end": 3, (2, 2): 12, (5, 1): 2}),
    ]


def deep():
    thing = 7
    for _ in range(15):
        thing = ([thing],)
    return thing


def things():
    """Things of each kind that an argument may be where an error is raised for it."""
    coding = plain()
    return [
        None, True, False, 0, 1, -1, 7, GREAT, -GREAT,
        "", "a", "b", "ab", "end", "0", "01", "A", "a b", "\u0660", "longest",
        (), (2, 1), (2, True), (True, 1), (1, 2), (9, 1), (2, 9), (2, 0), (2, 1, 1), ("2", 1), ((2, 1), 1), (2, -1),
        [], [2, 1], ["a"], ["a", "b"], [0], [[0]], [None], [True], [GREAT],
        {}, {"a": 1}, {"a": "0", "end": "1"}, {(2, 1): "a"}, {0: []}, {None: {}},
        deep(), [coding], (coding, coding), coding, Reader(coding), Rule("lazy"), [Rule("ahead", 3)], errors.BadText(3), errors.NoCommand(),
    ]


def picture(thing):
    """A string that changes if something inside of a thing does."""
    if isinstance(thing, (list, tuple)):
        return type(thing).__name__ + "(" + ", ".join([picture(item) for item in thing]) + ")"
    if isinstance(thing, dict):
        return "{" + ", ".join([picture(key) + ": " + picture(thing[key]) for key in thing]) + "}"
    if isinstance(thing, Format):
        return str((thing.letters, thing.words, thing.window, thing.longest, thing.commands()))
    if isinstance(thing, Reader):
        return str((thing.text(), thing.way(), thing.may(), thing.lack(), thing.is_whole()))
    if isinstance(thing, Rule):
        return str((thing.kind, thing.ahead))
    return repr(thing)


def raises(test, made, function, *arguments, **named):
    """Check that a call raises just this error, with just these fields, and changes no argument."""
    before = picture([*arguments, *named.values()])
    try:
        result = function(*arguments, **named)
    except errors.PackError as e:
        test.assertIs(type(e), type(made), (function, before))
        test.assertEqual(picture_of_fields(e), picture_of_fields(made), (function, before))
        test.assertEqual(picture([*arguments, *named.values()]), before)
        return
    test.fail(f"{function} of {before} returned {result!r}, and did not raise {made!r}")


def picture_of_fields(error):
    """The fields of an error and their kinds: True is not 1 here."""
    return {name: picture(value) for name, value in vars(error).items()}


def put(text, command):
    """The text with what a command puts behind it, letter by letter; None if it cannot stand there."""
    if isinstance(command, str):
        return text + command
    length, distance = command
    if distance > len(text):
        return None
    for _ in range(length):
        text += text[-distance]
    return text


def ways_of(coding, text):
    """All ways that put a text, found by trying each command at each place."""
    found = []
    begun = [([], "")]
    while begun:
        way, so_far = begun.pop()
        if so_far == text:
            found.append(way)
            continue
        for command in coding.words:
            if command != "end":
                longer = put(so_far, command)
                if longer is not None and text.startswith(longer):
                    begun.append((way + [command], longer))
    return found


def bits_of(words, way):
    return "".join([words[command] for command in way]) + words["end"]


def files_through(coding, most):
    """A dict from files to (way, text): all with which a row of at most so many bits can go on until one is whole."""
    words = coding.words
    found = {}
    begun = [([], "", "")]
    while begun:
        way, text, bits = begun.pop()
        found[bits + words["end"]] = (way, text)
        for command in words:
            if command != "end" and len(bits) <= most:
                longer = put(text, command)
                if longer is not None:
                    begun.append((way + [command], longer, bits + words[command]))
    return found


def texts(letters, most):
    """All texts with at most so many letters."""
    found = [""]
    level = [""]
    for _ in range(most):
        level = [text + letter for text in level for letter in letters]
        found += level
    return found


def pairs_to_try():
    """Pairs of a format and a short text: all short texts of its letters, and some in which long copies can stand."""
    found = []
    for coding in formats():
        letters = coding.letters
        first, last = letters[0], letters[-1]
        found += [(coding, text) for text in texts(letters, {1: 9, 2: 6, 4: 3}[len(letters)])]
        found += [(coding, text) for text in (first * 10, (first + last) * 5, (first + first + last) * 3 + last)]
        found += [(coding, (letters * 3)[:9]), (coding, first + last * 8)]
    return found


def steps_between(coding, text):
    """The steps of a text as triples (place, command, place behind), found by trying each command at each place."""
    found = []
    for at in range(len(text)):
        for command in coding.words:
            if command != "end":
                longer = put(text[:at], command)
                if longer is not None and text.startswith(longer):
                    found.append((at, command, len(longer)))
    return found


def places_of(way):
    """The places at which the commands of a way begin, and the last one."""
    places = [0]
    for command in way:
        places.append(places[-1] + (1 if isinstance(command, str) else command[0]))
    return places


def wrong_texts():
    """Pairs of what is no text of the letters of the plain format, and the place that BadText tells."""
    found = [(thing, -1) for thing in things() if not isinstance(thing, str)]
    found += [("c", 0), ("abc", 2), ("abcab", 2), ("A", 0), ("ab ", 2), ("a\n", 1), ("b0", 1), ("ab\u00e9z", 2)]
    return found + [("ab" * 200 + "x", 400), ("end", 0)]


def check_wrong_texts(test, function, *more):
    """Check that a function of the plain format, a text and more looks at the text first."""
    for text, place in wrong_texts():
        raises(test, errors.BadText(place), function, plain(), text, *more)
