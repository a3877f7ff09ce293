"""Points 3 to 5: commands, formats, words made from prices."""

import unittest
from fractions import Fraction

from leastfile.errors import BadFormat, NoCommand
from leastfile.formats import Format, coded, room
from leastfile.readers import Reader
from tests.helping import GREAT, formats, picture, plain, raises, things

WORDS = {"a": "00", "b": "01", (2, 1): "110", (3, 2): "10", "end": "111"}
PRICES = {"a": 2, "b": 2, (2, 1): 3, (3, 2): 2, "end": 3}
COPIES = [(length, distance) for length in range(2, 9) for distance in range(1, 9)]


def many_words(copies):
    """Words of 6 bits for the letter a, "end" and so many copies."""
    commands = ["a", "end"] + COPIES[:copies]
    return {command: f"{number:06b}" for number, command in enumerate(commands)}


class TestFormat(unittest.TestCase):
    def test_fields(self):
        coding = Format("ab", WORDS)
        self.assertEqual((coding.letters, coding.window, coding.longest), ("ab", 2, 3))
        self.assertEqual(coding.words, WORDS)
        far = Format("a", {"a": "00", "end": "01", (2, 8): "10", (7, 1): "11"})
        self.assertEqual((far.window, far.longest), (8, 7))

    def test_without_copies(self):
        coding = Format("a", {"end": "1", "a": "0"})
        self.assertEqual((coding.window, coding.longest), (0, 1))
        self.assertEqual(coding.commands(), ["a", "end"])

    def test_arguments_by_name(self):
        self.assertEqual(Format(words=WORDS, letters="ab"), Format("ab", WORDS))
        self.assertEqual(Format("ab", WORDS).price(command="a"), 2)

    def test_words_are_new_each_time(self):
        given = dict(WORDS)
        coding = Format("ab", given)
        given["a"] = "1"
        coding.words.clear()
        coding.commands().clear()
        self.assertEqual(coding.words, WORDS)
        self.assertIsNot(coding.words, coding.words)
        self.assertEqual(len(coding.commands()), 5)

    def test_order_of_commands(self):
        backwards = {command: WORDS[command] for command in reversed(WORDS)}
        self.assertEqual(Format("ab", backwards).commands(), ["a", "b", (2, 1), (3, 2), "end"])
        coding = coded("fg", {(3, 1): 4, "end": 4, (2, 8): 4, "g": 4, (2, 3): 4, "f": 4, (8, 1): 4})
        self.assertEqual(coding.commands(), ["f", "g", (2, 3), (2, 8), (3, 1), (8, 1), "end"])

    def test_price(self):
        for coding in formats():
            for command in coding.commands():
                self.assertEqual(coding.price(command), len(coding.words[command]))

    def test_price_of_none(self):
        coding = plain()
        for thing in things():
            if not (isinstance(thing, str) and thing in ("a", "b", "end")) and picture(thing) != picture((2, 1)):
                raises(self, NoCommand(), coding.price, thing)
        for thing in ("c", (3, 1), (2, 2), ("a",), ["a"], (2, True), [2, 1], "(2, 1)", "aa", (2, 1, 0), coding):
            raises(self, NoCommand(), coding.price, thing)
        flags = Format("a", {"a": "0", "end": "10", (2, 1): "11"})
        raises(self, NoCommand(), flags.price, (2, True))

    def test_equal(self):
        backwards = {command: WORDS[command] for command in reversed(WORDS)}
        self.assertTrue(Format("ab", WORDS) == Format("ab", backwards))
        self.assertTrue(plain() == Format("ab", WORDS))
        self.assertFalse(plain() != Format("ab", WORDS))
        self.assertFalse(plain() == Format("ab", {**WORDS, "a": "01", "b": "00"}))
        self.assertFalse(Format("a", {"a": "0", "end": "1"}) == Format("b", {"b": "0", "end": "1"}))
        found = formats()
        for number, coding in enumerate(found):
            self.assertEqual([coding == other for other in found], [other == number for other in range(len(found))])


class TestWrongFormats(unittest.TestCase):
    def test_letters(self):
        for letters in ("", "abcde", "ba", "aa", "aB", "A", "a1", "a-", "\u00e9", "ac b", None, ["a"], ("a", "b"), 5):
            raises(self, BadFormat("letters"), Format, letters, WORDS)
            raises(self, BadFormat("letters"), coded, letters, PRICES)
        for thing in things():
            if not (isinstance(thing, str) and thing in ("a", "b", "ab")):
                raises(self, BadFormat("letters"), Format, thing, WORDS)
                raises(self, BadFormat("letters"), coded, thing, PRICES)

    def test_letters_are_looked_at_first(self):
        raises(self, BadFormat("letters"), Format, "ba", None)
        raises(self, BadFormat("letters"), coded, None, None)

    def test_one_letter_and_four(self):
        self.assertEqual(Format("q", {"q": "1", "end": "0"}).letters, "q")
        words = {"a": "00", "b": "010", "y": "011", "z": "10", "end": "11"}
        self.assertEqual(Format("abyz", words).letters, "abyz")

    def test_words_of_other_kinds(self):
        for thing in things():
            if not (isinstance(thing, dict) and "end" in thing):
                raises(self, BadFormat("words"), Format, "a", thing)
        raises(self, BadFormat("words"), Format, "ab", list(WORDS.items()))

    def test_commands_that_lack(self):
        for command in ("a", "b", "end"):
            raises(self, BadFormat("words"), Format, "ab", {key: WORDS[key] for key in WORDS if key != command})

    def test_keys_that_are_no_commands(self):
        words = {"a": "0", "end": "10"}
        keys = ["b", "A", "", "aa", "End", 0, None, True, (1, 1), (9, 1), (2, 0), (2, 9), (2, True), (True, 2), (2,),
                (2, 1, 1), ("2", "1"), (2, None), ((2, 1),), (), Reader(plain()), -1, GREAT, (GREAT, 1)]
        for key in keys:
            raises(self, BadFormat("words"), Format, "a", {**words, key: "11"})
            raises(self, BadFormat("prices"), coded, "a", {"a": 1, "end": 2, key: 2})
        for key in ((2, 1), (8, 8), (2, 8), (8, 1)):
            self.assertEqual(Format("a", {**words, key: "11"}).price(key), 2)
            self.assertEqual(coded("a", {"a": 1, "end": 2, key: 2}).price(key), 2)

    def test_words_that_are_no_bits(self):
        wrong = [None, True, 1, "", "2", "1a", "1 ", "\u0661", ["1"], ("1", "1"), {"1": "1"}, plain(), "1" * 13, "-1"]
        for word in wrong:
            raises(self, BadFormat("words"), Format, "a", {"a": "0", "end": word})
            raises(self, BadFormat("words"), Format, "a", {"a": word, "end": "0"})

    def test_words_of_1_12_and_13_bits(self):
        coding = Format("a", {"a": "0", "end": "1" * 12})
        self.assertEqual([coding.price("a"), coding.price("end")], [1, 12])
        raises(self, BadFormat("words"), Format, "a", {"a": "0", "end": "1" * 13})

    def test_words_that_begin_others(self):
        for word in ("0", "01", "00", "0110"):
            raises(self, BadFormat("words"), Format, "a", {"a": "0", "end": "1", (2, 1): word})
            raises(self, BadFormat("words"), Format, "a", {"a": word, "end": "1", (2, 1): "0"})
        far = {"a": "01", "b": "0011", "c": "000", "end": "10"}
        self.assertEqual(Format("abc", far).words, far)
        raises(self, BadFormat("words"), Format, "abc", {**far, (2, 1): "00"})
        raises(self, BadFormat("words"), Format, "abc", {**far, (2, 1): "00110"})

    def test_40_and_41_commands(self):
        self.assertEqual(len(Format("a", many_words(38)).commands()), 40)
        raises(self, BadFormat("words"), Format, "a", many_words(39))
        prices = {command: 6 for command in many_words(38)}
        self.assertEqual(len(coded("a", prices).commands()), 40)
        raises(self, BadFormat("prices"), coded, "a", {**prices, (8, 8): 6})


class TestCoded(unittest.TestCase):
    def test_example(self):
        self.assertEqual([plain().words[command] for command in plain().commands()], ["00", "01", "110", "10", "111"])

    def test_arguments_by_name(self):
        self.assertEqual(coded(prices=PRICES, letters="ab"), plain())

    def test_words_follow_as_numbers(self):
        coding = coded("ab", {"b": 1, "a": 3, (2, 1): 3, "end": 12})
        self.assertEqual(coding.words, {"b": "0", "a": "100", (2, 1): "101", "end": "110000000000"})
        self.assertEqual(coded("a", {"a": 1, "end": 1}).words, {"a": "0", "end": "1"})
        self.assertEqual(coded("a", {"a": 12, "end": 12}).words, {"a": "0" * 12, "end": "0" * 11 + "1"})

    def test_words_told_once_more(self):
        for coding in formats():
            prices = {command: coding.price(command) for command in coding.commands()}
            words = coded(coding.letters, prices).words
            rows = sorted(prices, key=lambda each: (prices[each], coding.commands().index(each)))
            below = Fraction(0)
            for command in rows:
                # The word, read as a binary fraction, is the sum of what stands ahead.
                self.assertEqual(len(words[command]), prices[command])
                self.assertEqual(Fraction(int(words[command], 2), 2 ** prices[command]), below)
                below += Fraction(1, 2 ** prices[command])

    def test_wrong_prices(self):
        for thing in things():
            if picture(thing) != picture({"a": 1}):
                raises(self, BadFormat("prices"), coded, "ab", thing)
        for price in (0, 13, -1, True, False, None, "1", [1], (1,), {}, GREAT, plain()):
            raises(self, BadFormat("prices"), coded, "a", {"a": 1, "end": price})
            raises(self, BadFormat("prices"), coded, "a", {"a": price, "end": 12})
        for command in ("a", "b", "end"):
            raises(self, BadFormat("prices"), coded, "ab", {key: PRICES[key] for key in PRICES if key != command})

    def test_prices_of_1_12_and_13(self):
        self.assertEqual(coded("a", {"a": 1, "end": 12}).price("end"), 12)
        raises(self, BadFormat("prices"), coded, "a", {"a": 1, "end": 13})

    def test_sum_of_just_1_and_above(self):
        self.assertEqual(room(coded("a", {"a": 1, "end": 2, (2, 1): 2})), (0, 1))
        raises(self, BadFormat("prices"), coded, "a", {"a": 1, "end": 2, (2, 1): 1})
        just = {"a": 1, "b": 2, "c": 3, "d": 4, "end": 5, (2, 1): 6, (2, 2): 7, (2, 3): 8, (2, 4): 9, (2, 5): 10,
                (2, 6): 11, (2, 7): 12, (2, 8): 12}
        self.assertEqual(room(coded("abcd", just)), (0, 1))
        raises(self, BadFormat("prices"), coded, "abcd", {**just, (3, 1): 12})

    def test_prices_are_kept_apart(self):
        given = dict(PRICES)
        coding = coded("ab", given)
        given["a"] = 1
        self.assertEqual(coding.price("a"), 2)


class TestRoom(unittest.TestCase):
    def test_room(self):
        self.assertEqual(room(plain()), (0, 1))
        self.assertEqual(room(Format("a", {"a": "0", "end": "1" * 12})), (2047, 4096))
        self.assertEqual(room(coding=Format("a", {"a": "00", "end": "10"})), (1, 2))
        for coding in formats():
            rest = 1 - sum([Fraction(1, 2 ** len(word)) for word in coding.words.values()])
            self.assertEqual(room(coding), (rest.numerator, rest.denominator))
