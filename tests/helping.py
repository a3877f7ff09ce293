"""What the tests share: formats, things of all kinds, and slow but sure ways to list files."""

from fractions import Fraction

from leastfile import errors
from leastfile.formats import Format, coded
from leastfile.readers import Reader
from leastfile.rules import Rule, taken
from leastfile.shortest import costs

GREAT = 10 ** 60 - 1
ROWS = {}


def plain():
    return coded("ab", {"a": 2, "b": 2, (2, 1): 3, (3, 2): 2, "end": 3})


def formats():
    """Formats of many kinds: no copies, one letter, four letters, loose words, all short copies."""
    loose = {"a": "0010", "c": "01", (2, 2): "000", (2, 1): "1101", (4, 1): "10", (5, 3): "11111", "end": "1100"}
    short = {"a": 3, "b": 4, "end": 5}
    for length in (2, 3, 4):
        for distance in (1, 2, 3):
            short[(length, distance)] = 4 if length == 3 else 5
    return [
        plain(),
        coded("a", {"a": 1, "end": 1}),
        coded("z", {"z": 2, "end": 2, (2, 1): 2, (8, 8): 2}),
        Format("ac", loose),
        coded("ab", short),
        coded("abcd", {"a": 2, "b": 3, "c": 3, "d": 3, "end": 4, (2, 1): 3, (3, 4): 3, (8, 2): 4}),
        coded("xy", {"x": 12, "y": 1, "end": 3, (2, 2): 12, (5, 1): 2}),
    ]


def deep():
    thing = 7
    for _ in range(15):
        thing = ([thing],)
    return thing


def things():
    """Things of each kind that an argument may be where an error is raised for it."""
    coding = plain()
    return [
        None, True, False, 0, 1, -1, 7, GREAT, -GREAT,
        "", "a", "b", "ab", "end", "0", "01", "A", "a b", "\u0660", "longest",
        (), (2, 1), (2, True), (True, 1), (1, 2), (9, 1), (2, 9), (2, 0), (2, 1, 1), ("2", 1), ((2, 1), 1), (2, -1),
        [], [2, 1], ["a"], ["a", "b"], [0], [[0]], [None], [True], [GREAT],
        {}, {"a": 1}, {"a": "0", "end": "1"}, {(2, 1): "a"}, {0: []}, {None: {}},
        deep(), [coding], (coding, coding), coding, Reader(coding), Rule("lazy"), [Rule("ahead", 3)],
        errors.BadText(3), errors.NoCommand(),
    ]


def picture(thing):
    """A string that changes if something inside of a thing does."""
    if isinstance(thing, (list, tuple)):
        return type(thing).__name__ + "(" + ", ".join([picture(item) for item in thing]) + ")"
    if isinstance(thing, dict):
        return "{" + ", ".join([picture(key) + ": " + picture(thing[key]) for key in thing]) + "}"
    if isinstance(thing, Format):
        return str((thing.letters, thing.words, thing.window, thing.longest, thing.commands()))
    if isinstance(thing, Reader):
        return str((thing.text(), thing.way(), thing.may(), thing.lack(), thing.is_whole()))
    if isinstance(thing, Rule):
        return str((thing.kind, thing.ahead))
    return repr(thing)


def raises(test, made, function, *arguments, **named):
    """Check that a call raises just this error, with just these fields, and changes no argument."""
    before = picture([*arguments, *named.values()])
    try:
        result = function(*arguments, **named)
    except errors.PackError as e:
        test.assertIs(type(e), type(made), (function, before))
        test.assertEqual(picture_of_fields(e), picture_of_fields(made), (function, before))
        test.assertEqual(picture([*arguments, *named.values()]), before)
        return
    test.fail(f"{function} of {before} returned {result!r}, and did not raise {made!r}")


def picture_of_fields(error):
    """The fields of an error and their kinds: True is not 1 here."""
    return {name: picture(value) for name, value in vars(error).items()}


def put(text, command):
    """The text with what a command puts behind it, letter by letter; None if it cannot stand there."""
    if isinstance(command, str):
        return text + command
    length, distance = command
    if distance > len(text):
        return None
    for _ in range(length):
        text += text[-distance]
    return text


def ways_of(coding, text):
    """All ways that put a text, found by trying each command at each place."""
    found = []
    begun = [([], "")]
    while begun:
        way, so_far = begun.pop()
        if so_far == text:
            found.append(way)
            continue
        for command in coding.words:
            if command != "end":
                longer = put(so_far, command)
                if longer is not None and text.startswith(longer):
                    begun.append((way + [command], longer))
    return found


def bits_of(words, way):
    return "".join([words[command] for command in way]) + words["end"]


def files_through(coding, most):
    """A dict from files to (way, text): all with which a row of at most so many bits can go on until one is whole."""
    words = coding.words
    found = {}
    begun = [([], "", "")]
    while begun:
        way, text, bits = begun.pop()
        found[bits + words["end"]] = (way, text)
        for command in words:
            if command != "end" and len(bits) <= most:
                longer = put(text, command)
                if longer is not None:
                    begun.append((way + [command], longer, bits + words[command]))
    return found


def texts(letters, most):
    """All texts with at most so many letters."""
    found = [""]
    level = [""]
    for _ in range(most):
        level = [text + letter for text in level for letter in letters]
        found += level
    return found


def pairs_to_try():
    """Pairs of a format and a short text: all short texts of its letters, and some in which long copies can stand."""
    found = []
    for coding in formats():
        letters = coding.letters
        first, last = letters[0], letters[-1]
        found += [(coding, text) for text in texts(letters, {1: 9, 2: 6, 4: 3}[len(letters)])]
        found += [(coding, text) for text in (first * 10, (first + last) * 5, (first + first + last) * 3 + last)]
        found += [(coding, (letters * 3)[:9]), (coding, first + last * 8)]
    return found


def steps_between(coding, text):
    """The steps of a text as triples (place, command, place behind), found by trying each command at each place."""
    found = []
    for at in range(len(text)):
        for command in coding.words:
            if command != "end":
                longer = put(text[:at], command)
                if longer is not None and text.startswith(longer):
                    found.append((at, command, len(longer)))
    return found


def places_of(way):
    """The places at which the commands of a way begin, and the last one."""
    places = [0]
    for command in way:
        places.append(places[-1] + (1 if isinstance(command, str) else command[0]))
    return places


def wrong_texts():
    """Pairs of what is no text of the letters of the plain format, and the place that BadText tells."""
    found = [(thing, -1) for thing in things() if not isinstance(thing, str)]
    found += [("c", 0), ("abc", 2), ("abcab", 2), ("A", 0), ("ab ", 2), ("a\n", 1), ("b0", 1), ("ab\u00e9z", 2)]
    return found + [("ab" * 200 + "x", 400), ("end", 0)]


def check_wrong_texts(test, function, *more):
    """Check that a function of the plain format, a text and more looks at the text first."""
    for text, place in wrong_texts():
        raises(test, errors.BadText(place), function, plain(), text, *more)


def rules():
    return [Rule(kind) for kind in ("longest", "cheapest", "lazy")] + [Rule("ahead", ahead) for ahead in range(1, 9)]


def last(text, many):
    return text[len(text) - min(many, len(text)):]


def dearer(sums, longest):
    """How much dearer the places ahead of the last one are, of a list of costs."""
    back = min(len(sums) - 1, longest - 1)
    return tuple([sums[-1 - k] - sums[-1] for k in range(1, back + 1)])


def reckoned(coding, rule):
    """A function that tells the view of a text, all that was paid and all that was gained, from all letters so far."""
    sight = rule.sight(coding)

    def reckon(text):
        at = 0
        paid = 0
        while len(text) - at >= sight:
            command = taken(coding, rule, text, at)
            paid += coding.price(command)
            at += command[0] if isinstance(command, tuple) else 1
        sums = costs(coding, text)
        tail = last(text, coding.window + max(coding.longest, sight) - 1)
        return ((tail, len(text) - at, dearer(sums, coding.longest)), paid, sums[-1])
    return reckon


def reckoned_two(one, other):
    """The same for the view of two formats, and what each of them gained."""
    def reckon(text):
        tail = last(text, max(one.window + one.longest, other.window + other.longest) - 1)
        sums = costs(one, text)
        other_sums = costs(other, text)
        view = (tail, dearer(sums, one.longest), dearer(other_sums, other.longest))
        return (view, sums[-1], other_sums[-1])
    return reckon


def all_views(letters, reckon):
    """All views, in the order of their least texts, with these texts: a dict from the views."""
    found = {reckon("")[0]: ""}
    order = [""]
    for text in order:
        for letter in letters:
            view = reckon(text + letter)[0]
            if view not in found:
                found[view] = text + letter
                order.append(text + letter)
    return found


def rows_of(coding, rule):
    """The rows of a format and a rule, reckoned once for all tests."""
    key = (coding.letters, tuple([coding.price(command) for command in coding.commands()]),
           tuple(coding.commands()), rule.kind, rule.ahead)
    if key not in ROWS:
        ROWS[key] = all_rows(coding.letters, reckoned(coding, rule))
    return ROWS[key]


def all_rows(letters, reckon):
    """A dict from pairs (view, letter) to triples (next view, paid, gained), each reckoned anew from a whole text."""
    rows = {}
    for view, text in all_views(letters, reckon).items():
        _, paid, gained = reckon(text)
        for letter in letters:
            behind, all_paid, all_gained = reckon(text + letter)
            rows[(view, letter)] = (behind, all_paid - paid, all_gained - gained)
    return rows


def quotient_of(rows, first, pair):
    """The quotient of paid and gained sums of a pair of texts, a fraction, or None if the second one is no ring."""
    view = first
    for letter in pair[0]:
        view = rows[(view, letter)][0]
    begin = view
    paid = gained = 0
    for letter in pair[1]:
        view, more, gain = rows[(view, letter)]
        paid += more
        gained += gain
    if view != begin or pair[1] == "":
        return None
    return (Fraction(paid, gained).numerator, Fraction(paid, gained).denominator)


def is_table_for(rows, first, r, table):
    """Tell whether a list of pairs (view, height) is a table, its forms being right."""
    heights = {view: Fraction(*height) for view, height in table}
    if len(heights) != len(table) or set(heights) != {view for view, _ in rows} or heights[first] != 0:
        return False
    return all(heights[behind] >= heights[view] + paid - Fraction(*r) * gained
               for (view, _), (behind, paid, gained) in rows.items())


def tables_that_are_none(table):
    """Things that look like a table for a share, but are none: pairs of what is wrong, and the thing."""
    tiny = 10 ** 12
    found = [("no list", tuple(table)), ("a dict", dict(table)), ("none", None), ("empty", []),
             ("one is missing", table[:-1]), ("the first is missing", table[1:]), ("one twice", table + table[-1:]),
             ("one instead of another", table[1:] + table[-1:]), ("one more", table + [(("z" * 30, 0, ()), (0, 1))]),
             ("one more of another form", table + [(7, (0, 1))])]
    if len(table) == 1:
        found = [row for row in found if row[0] != "one instead of another"]
    for number in sorted({0, 1, len(table) // 2, len(table) - 1} & set(range(len(table)))):
        view, (top, bottom) = table[number]
        flags = tuple([bool(item) if item in (0, 1) and not isinstance(item, str) else item for item in view])
        lists = tuple([list(item) if isinstance(item, tuple) else item for item in view])
        low = Fraction(top, bottom) - Fraction(1, tiny)
        rows = [("a list as a pair", [view, (top, bottom)]), ("a triple", (view, (top, bottom), 0)),
                ("a pair without a view", ((top, bottom),)), ("lowered", (view, (low.numerator, low.denominator))),
                ("not in lowest terms", (view, (2 * top, 2 * bottom))), ("bottom below 0", (view, (-top, -bottom))),
                ("bottom 0", (view, (top, 0))), ("an integer", (view, top)), ("None", (view, None)),
                ("a list as a fraction", (view, [top, bottom])), ("a string", (view, (str(top), bottom))),
                ("three", (view, (top, bottom, 1))), ("no pair", 7), ("a list as a view", (list(view), (top, bottom))),
                ("no view", ("", (top, bottom)))]
        if lists != view:
            rows.append(("lists in the view", (lists, (top, bottom))))
        if bottom == 1:
            rows.append(("a flag", (view, (top, True))))
        if [type(item) for item in flags] != [type(item) for item in view]:
            rows.append(("flags in the view", (flags, (top, bottom))))
        if number == 0:
            rows.append(("raised", (view, (1, tiny))))
        found += [(wrong, table[:number] + [row] + table[number + 1:]) for wrong, row in rows]
    return found


def rings_that_are_none(letters, pair):
    """Things that look like a pair that shows a share, but are none: pairs of what is wrong, and the thing."""
    begin, ring = pair
    return [("a list", [begin, ring]), ("three", (begin, ring, "")), ("one", (begin,)), ("a string", begin + ring),
            ("no round", (begin, "")), ("neither", ("", "")), ("no text", (None, ring)), ("no round text", (begin, 7)),
            ("lists", (list(begin), list(ring))), ("other letters", (begin, ring + "?")), ("none", None),
            ("other letters ahead", ("B" + begin, ring)), ("a dict", {begin: ring}), ("nested", ((begin, ring), ring)),
            ("too long", (begin, ring * (3000 // len(ring) + 1))), ("too long ahead", (letters[0] * 3001, letters[0]))]
