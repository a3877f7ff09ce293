"""Points 23 and 24: two formats over all texts, and copies that are not needed."""

import unittest

from leastfile.compared import dearest, dearest_text, needed_by, needless, trimmed, unlike_text, without
from leastfile.errors import NoCommand, OtherLetters, TooMany
from leastfile.formats import Format, coded
from leastfile.pairs import share_of, table_of
from leastfile.shortest import least
from tests.helping import formats, picture, plain, raises, texts, things

BARE = coded("ab", {"a": 1, "b": 2, "end": 2})
FAR = coded("ab", {"a": 2, "b": 3, "end": 4, (8, 8): 3, (2, 1): 5})


def some_formats(letters):
    """Formats with the same letters, many of them."""
    found = []
    for number in range(9):
        prices = {letter: 2 + (number + at) % 3 for at, letter in enumerate(letters)}
        prices["end"] = 4 + number % 2
        prices[(2, 1 + number % 2)] = 4 + number % 5
        prices[(3, 1 + number % 3)] = 5 + number % 4
        found.append(coded(letters, prices))
    return found


def turned(coding):
    """A format with the same prices and other words."""
    words = coding.words
    return Format(coding.letters, {c: "".join(["10"[int(bit)] for bit in words[c]]) for c in words})


class TestUnlikeText(unittest.TestCase):
    def test_against_short_texts(self):
        lengths = set()
        for letters, many in (("a", 12), ("ab", 7)):
            told = texts(letters, many)
            codings = some_formats(letters)
            for one in codings:
                for other in codings[::2]:
                    found = [text for text in told if least(one, text) != least(other, text)]
                    self.assertEqual(unlike_text(one, other), found[0] if found else None)
                    lengths.add(len(found[0]) if found else None)
        self.assertGreater(len(lengths), 2)

    def test_far_unlike(self):
        one = coded("ab", {"a": 2, "b": 2, "end": 3, (4, 3): 7})
        other = coded("ab", {"a": 2, "b": 2, "end": 3, (4, 1): 9, (3, 3): 5})
        found = [text for text in texts("ab", 9) if least(one, text) != least(other, text)]
        self.assertEqual((unlike_text(one, other), unlike_text(other, one)), (found[0], found[0]))
        self.assertGreater(len(found[0]), 5)

    def test_unlike_ends(self):
        one = coded("ab", {"a": 1, "b": 2, "end": 3})
        self.assertEqual((unlike_text(one, BARE), unlike_text(BARE, one)), ("", ""))

    def test_equal_prices(self):
        for coding in formats()[:4]:
            for other in (coding, turned(coding)):
                self.assertIsNone(unlike_text(coding, other))
                self.assertEqual((dearest(coding, other), dearest_text(coding, other)), (0, ""))

    def test_copies_that_never_help(self):
        scant = coded("ab", {"a": 1, "b": 3, "end": 3})
        dear = coded("ab", {"a": 1, "b": 3, "end": 3, (2, 1): 7, (2, 3): 6, (3, 2): 9})
        self.assertIsNone(unlike_text(dear, scant))
        self.assertIsNone(unlike_text(other=dear, one=scant))


class TestDearest(unittest.TestCase):
    def test_against_short_texts(self):
        ends = endless = 0
        for letters, many in (("a", 25), ("ab", 8)):
            told = texts(letters, many)
            codings = some_formats(letters)
            for one in codings:
                for other in codings[::3]:
                    found = dearest(one, other)
                    top, bottom = share_of(one, other)
                    self.assertEqual(found is None, top > bottom)
                    self.assertEqual(dearest_text(one, other) is None, found is None)
                    more = [least(one, text) - least(other, text) for text in told]
                    if found is None:
                        endless += 1
                    else:
                        ends += found > one.price("end") - other.price("end")
                        self.assertEqual(found, max(more))
                        self.assertEqual(dearest_text(one, other), told[more.index(found)])
        self.assertGreater(ends, 3)
        self.assertGreater(endless, 3)

    def test_0_and_below(self):
        cheap = coded("ab", {"a": 1, "b": 2, "end": 2})
        dear = coded("ab", {"a": 2, "b": 2, "end": 7})
        self.assertEqual((dearest(cheap, dear), dearest_text(cheap, dear)), (-5, ""))
        self.assertEqual((dearest(dear, cheap), dearest_text(dear, cheap)), (None, None))
        self.assertEqual((dearest(dear, dear), dearest_text(dear, dear)), (0, ""))

    def test_least_of_several(self):
        # Letters cost one bit more in the one format, and copies of two letters spare more than that again.
        for window, price, most, first in [(4, 5, 5, ["bbccb", "bccbb", "cbbcc", "ccbbc"]),
                                           (5, 6, 6, ["bccbbbbccb", "cbbccccbbc"])]:
            copies = [(2, distance) for distance in range(1, window + 1)]
            one = coded("bc", {"b": 5, "c": 5, "end": 4, **{copy: price for copy in copies}})
            other = coded("bc", {"b": 4, "c": 4, "end": 4, **{copy: 8 for copy in copies}})
            told = texts("bc", len(first[0]))
            self.assertEqual([text for text in told if least(one, text) - least(other, text) >= most], first)
            self.assertEqual((dearest(one, other), dearest_text(one, other)), (most, first[0]))

    def test_arguments_by_name(self):
        dear = coded("ab", {"a": 2, "b": 2, "end": 7})
        self.assertEqual(dearest(other=dear, one=BARE), -5)
        self.assertEqual(dearest_text(other=dear, one=BARE), "")


class TestErrorsOfTwo(unittest.TestCase):
    def test_other_letters(self):
        for other in formats()[1:4] + formats()[5:]:
            for function in (unlike_text, dearest, dearest_text):
                raises(self, OtherLetters(), function, plain(), other)
                raises(self, OtherLetters(), function, other, FAR)

    def test_too_many(self):
        for function in (unlike_text, dearest, dearest_text):
            raises(self, TooMany(3000), function, plain(), FAR)
            raises(self, TooMany(3000), function, FAR, FAR)
            # Also where the ends alone show an answer.
            raises(self, TooMany(3000), function, BARE, FAR)


class TestNeedless(unittest.TestCase):
    def codings(self):
        """Formats with copies that are needed, or are not, or are not one by one."""
        return [
            plain(),
            coded("ab", {"a": 4, "b": 1, "end": 8, (3, 3): 9, (4, 2): 7, (2, 3): 8, (2, 1): 6}),
            coded("a", {"a": 5, "end": 7, (5, 1): 10, (3, 1): 2, (2, 2): 8, (5, 3): 4}),
            coded("abc", {"a": 2, "b": 2, "c": 4, "end": 8, (2, 2): 6, (3, 2): 4, (3, 1): 10}),
            coded("ab", {"a": 4, "b": 1, "end": 10, (2, 2): 10, (2, 1): 9, (3, 2): 10, (4, 1): 11, (3, 3): 10}),
            coded("a", {"a": 2, "end": 8, (4, 3): 9, (4, 2): 4, (3, 1): 5, (2, 2): 3}),
            coded("ab", {"a": 3, "b": 1, "end": 8, (4, 1): 8, (2, 1): 9, (3, 1): 3}),
        ]

    def test_against_short_texts(self):
        for coding in self.codings():
            letters = coding.letters
            told = texts(letters, {1: 30, 2: 8, 3: 6}[len(letters)])
            copies = [command for command in coding.commands() if isinstance(command, tuple)]
            found = []
            for copy in copies:
                other = without(coding, copy)
                unlike = [text for text in told if least(coding, text) != least(other, text)]
                self.assertEqual(needed_by(coding, copy), unlike[0] if unlike else None)
                if not unlike:
                    found.append(copy)
            self.assertEqual(needless(coding), found)

    def test_needless_one_by_one_but_not_together(self):
        for number, alone, left in [
            (2, [(2, 2), (5, 1)], [(2, 2), (3, 1), (5, 3)]),
            (3, [(2, 2), (3, 1)], [(2, 2), (3, 2)]),
            (4, [(2, 1), (2, 2), (3, 2), (3, 3)], [(3, 2), (4, 1)]),
            (5, [(2, 2), (3, 1), (4, 3)], [(2, 2), (4, 2)]),
        ]:
            coding = self.codings()[number]
            self.assertEqual(needless(coding), alone)
            self.assertEqual(trimmed(coding).commands(), [*coding.letters, *left, "end"])

    def test_needed_by_one_text_alone(self):
        for prices, copy, many in [
            ({"a": 5, "end": 5, (4, 2): 1, (3, 2): 2, (3, 1): 12}, (3, 1), 4),
            ({"a": 4, "end": 11, (3, 2): 8, (4, 2): 2, (3, 3): 7}, (3, 2), 5),
            ({"a": 6, "end": 9, (3, 1): 12, (2, 2): 7, (4, 3): 12, (3, 2): 8}, (2, 2), 6),
            ({"a": 5, "end": 9, (3, 2): 1, (2, 3): 6, (4, 2): 4}, (2, 3), 7),
        ]:
            coding = coded("a", prices)
            other = without(coding, copy)
            unlike = [size for size in range(100) if least(coding, "a" * size) != least(other, "a" * size)]
            self.assertEqual(unlike, [many])
            self.assertEqual(needed_by(coding, copy), "a" * many)
            self.assertNotIn(copy, needless(coding))
            self.assertIn(copy, trimmed(coding).commands())

    def test_without_copies(self):
        self.assertEqual(needless(BARE), [])
        self.assertEqual(trimmed(BARE), BARE)

    def test_results_are_new(self):
        coding = self.codings()[2]
        needless(coding).clear()
        self.assertEqual(needless(coding=coding), [(2, 2), (5, 1)])
        self.assertEqual(needed_by(copy=(2, 1), coding=plain()), "aaa")

    def test_trimmed(self):
        sizes = set()
        for coding in self.codings():
            left = coding
            for copy in sorted([command for command in coding.commands() if isinstance(command, tuple)])[::-1]:
                if unlike_text(left, without(left, copy)) is None:
                    left = without(left, copy)
            before = picture(coding)
            self.assertEqual(trimmed(coding=coding), left)
            self.assertEqual(needless(trimmed(coding)), [])
            self.assertIsNone(unlike_text(coding, trimmed(coding)))
            self.assertEqual(picture(coding), before)
            sizes.add(len(coding.commands()) - len(left.commands()))
        self.assertEqual(trimmed(plain()), plain())
        self.assertGreater(len(sizes), 1)

    def test_without(self):
        for coding in formats() + [FAR]:
            before = picture(coding)
            for copy in [command for command in coding.commands() if isinstance(command, tuple)]:
                words = coding.words
                del words[copy]
                self.assertEqual(without(coding, copy), Format(coding.letters, words))
                self.assertEqual(without(copy=copy, coding=coding).words, words)
            self.assertEqual(picture(coding), before)

    def test_no_command(self):
        for function in (without, needed_by):
            for thing in things() + ["end", "a", "b", (2, 2), (3, 1), (8, 7), (3, True), [3, 2]]:
                if picture(thing) not in (picture((2, 1)), picture((3, 2))):
                    raises(self, NoCommand(), function, plain(), thing)
                if picture(thing) not in (picture((2, 1)), picture((8, 8))):
                    raises(self, NoCommand(), function, FAR, thing)

    def test_too_many(self):
        for function, more in ((needless, ()), (trimmed, ()), (needed_by, ((2, 1),)), (needed_by, ((8, 8),))):
            raises(self, TooMany(3000), function, FAR, *more)
        raises(self, NoCommand(), needed_by, FAR, (8, 1))
        self.assertEqual(without(FAR, (8, 8)).commands(), ["a", "b", (2, 1), "end"])

    def test_just_3000_and_one_more(self):
        just = coded("abc", {"a": 5, "b": 6, "c": 4, "end": 7, (2, 4): 3, (2, 1): 3, (2, 3): 2, (2, 2): 8})
        self.assertEqual(len(table_of(just, without(just, (2, 1)))), 3000)
        self.assertEqual(needed_by(just, (2, 1)), "aaa")
        self.assertEqual(needless(just), [])
        self.assertEqual(trimmed(just), just)
        more = coded("ab", {"a": 6, "b": 2, "end": 2, (3, 1): 10, (3, 7): 7, (3, 2): 6})
        raises(self, TooMany(3000), needed_by, more, (3, 2))
        raises(self, TooMany(3000), needless, more)

    def test_too_many_only_where_it_is_looked(self):
        # Without (4, 4) there are too many views of two, but not when (5, 4) is out of the way.
        coding = coded("ab", {"a": 4, "b": 2, "end": 10, (2, 1): 8, (5, 4): 5, (4, 4): 1, (3, 4): 9})
        raises(self, TooMany(3000), needed_by, coding, (4, 4))
        raises(self, TooMany(3000), needless, coding)
        self.assertEqual([needed_by(coding, copy) for copy in ((2, 1), (3, 4), (5, 4))], [None, "aaaaaaa", None])
        self.assertEqual(trimmed(coding).commands(), ["a", "b", (3, 4), (4, 4), "end"])
        # Here the last but one is looked at while the last one, which is needed, is still there.
        coding = coded("abcd", {"a": 5, "b": 5, "c": 4, "d": 5, "end": 8, (2, 1): 10, (4, 2): 8, (3, 2): 9, (4, 1): 10})
        raises(self, TooMany(3000), trimmed, coding)
