"""Points 6 and 7: ways, their texts, their files, and files read again."""

import unittest

from leastfile.errors import BadBits, BadWay, Left, NoBits, TooFew
from leastfile.files import read, spread, text_of, written
from leastfile.formats import Format, coded
from tests.helping import bits_of, files_through, formats, picture, plain, raises, things


class TestWays(unittest.TestCase):
    def test_examples(self):
        self.assertEqual(written(plain(), ["a", "b", (3, 2)]), "000110111")
        self.assertEqual(spread(plain(), ["a", "b", (3, 2)]), "ababa")

    def test_empty_way(self):
        for coding in formats():
            self.assertEqual(spread(coding, []), "")
            self.assertEqual(written(coding, []), coding.words["end"])

    def test_copies_of_what_they_put(self):
        coding = coded("ab", {"a": 2, "b": 2, "end": 3, (8, 1): 3, (7, 2): 3, (8, 3): 3})
        self.assertEqual(spread(coding, ["b", (8, 1)]), "b" * 9)
        self.assertEqual(spread(coding, ["a", "b", (7, 2)]), "ababababa")
        self.assertEqual(spread(coding, ["a", "b", "b", (8, 3)]), "abbabbabbab")

    def test_all_short_files(self):
        for coding in formats():
            for bits, (way, text) in files_through(coding, 9).items():
                self.assertEqual(spread(coding, way), text)
                self.assertEqual(written(coding, way), bits)
                self.assertEqual(bits_of(coding.words, way), bits)

    def test_arguments_by_name(self):
        self.assertEqual(spread(way=["a"], coding=plain()), "a")
        self.assertEqual(written(way=["a"], coding=plain()), "00111")

    def test_way_is_not_changed(self):
        way = ["a", (2, 1)]
        written(plain(), way)
        spread(plain(), way)
        self.assertEqual(way, ["a", (2, 1)])

    def test_distance_just_and_too_great(self):
        coding = coded("a", {"a": 1, "end": 3, (2, 8): 3, (8, 8): 3, (3, 1): 3})
        self.assertEqual(spread(coding, ["a"] * 8 + [(8, 8), (2, 8)]), "a" * 18)
        self.assertEqual(spread(coding, ["a", (3, 1), (3, 1), "a", (2, 8)]), "a" * 10)
        for function in (spread, written):
            raises(self, BadWay(7), function, coding, ["a"] * 7 + [(8, 8)])
            raises(self, BadWay(3), function, coding, ["a", (3, 1), (3, 1), (2, 8), "end"])
            raises(self, BadWay(0), function, coding, [(3, 1)])

    def test_wrong_items(self):
        coding = plain()
        for function in (spread, written):
            for thing in things():
                if not (isinstance(thing, str) and thing in ("a", "b")) and picture(thing) != picture((2, 1)):
                    raises(self, BadWay(0), function, coding, [thing])
                    raises(self, BadWay(2), function, coding, ["a", (2, 1), thing])
            for item in ("end", "c", "ab", "", (2, True), [2, 1], (2, 2), (3, 1), ["a"]):
                raises(self, BadWay(1), function, coding, ["b", item, (9, 9)])

    def test_what_is_not_a_list(self):
        for function in (spread, written):
            for thing in things():
                if not isinstance(thing, list):
                    raises(self, BadWay(-1), function, plain(), thing)
            raises(self, BadWay(-1), function, plain(), ("a", "b"))

    def test_ways_of_400_commands(self):
        coding = coded("ab", {"a": 2, "b": 2, (8, 2): 2, "end": 2})
        way = ["a", "b"] + [(8, 2)] * 398
        text = "ab" * (1 + 4 * 398)
        self.assertEqual(spread(coding, way), text)
        bits = written(coding, way)
        self.assertEqual(len(bits), 802)
        self.assertEqual(read(coding, bits), way)
        self.assertEqual(text_of(coding, bits), text)
        raises(self, BadWay(399), written, coding, way[:399] + ["end"])


class TestRead(unittest.TestCase):
    def test_examples(self):
        raises(self, BadBits(1), read, plain(), "10")
        raises(self, TooFew(2), read, plain(), "1")
        self.assertEqual(read(plain(), "000110111"), ["a", "b", (3, 2)])

    def test_no_bits(self):
        for function in (read, text_of):
            for thing in things():
                if not (isinstance(thing, str) and thing in ("", "0", "01")):
                    raises(self, NoBits(), function, plain(), thing)
            for wrong in ("2", "111a", "1 1", "\u0661\u0660", " ", "111\n", "a111"):
                raises(self, NoBits(), function, plain(), wrong)

    def test_arguments_by_name(self):
        self.assertEqual(read(bits="111", coding=plain()), [])
        self.assertEqual(text_of(bits="00111", coding=plain()), "a")

    def test_empty_bits(self):
        for coding in formats():
            raises(self, TooFew(coding.price("end")), read, coding, "")

    def test_bits_that_lie_in_no_word(self):
        coding = Format("a", {"a": "00", "end": "10", (2, 1): "1100"})
        raises(self, BadBits(1), read, coding, "01")
        raises(self, BadBits(1), read, coding, "11")
        raises(self, BadBits(4), read, coding, "00111")
        raises(self, BadBits(5), read, coding, "001101")
        self.assertEqual(text_of(coding, "00110010"), "aaa")

    def test_bits_cut_at_each_place(self):
        for coding in formats():
            way = [coding.letters[0], coding.letters[-1]] * 4
            way += [command for command in coding.commands() if isinstance(command, tuple)]
            bits = written(coding, way)
            self.assertEqual(read(coding, bits), way)
            for cut in range(len(bits)):
                with self.assertRaises(TooFew):
                    read(coding, bits[:cut])
            for more in ("0", "1", bits, "01" * 9):
                raises(self, Left(len(bits)), read, coding, bits + more)
                raises(self, Left(len(bits)), text_of, coding, bits + more)

    def test_against_all_files(self):
        for coding in formats():
            most = 8
            files = files_through(coding, most)
            begun = {bits[:cut] for bits in files for cut in range(len(bits) + 1)}
            for size in range(most + 1):
                for number in range(2 ** size):
                    self.check_one(coding, files, begun, f"{number:0{size}b}" if size else "")

    def check_one(self, coding, files, begun, bits):
        ended = [cut for cut in range(len(bits)) if bits[:cut] in files]
        bad = [cut for cut in range(len(bits)) if bits[:cut + 1] not in begun]
        if bits in files:
            self.assertEqual((read(coding, bits), text_of(coding, bits)), files[bits])
            return
        if ended:
            expected = Left(ended[0])
        elif bad:
            expected = BadBits(bad[0])
        else:
            expected = TooFew(min([len(bits_more) for bits_more in files if bits_more.startswith(bits)]) - len(bits))
        raises(self, expected, read, coding, bits)
        raises(self, expected, text_of, coding, bits)

    def test_6000_bits(self):
        coding = coded("a", {"a": 2, (8, 1): 1, "end": 2})
        bits = coding.words["a"] + "0" * 5996 + coding.words["end"]
        self.assertEqual(len(bits), 6000)
        self.assertEqual(text_of(coding, bits), "a" * (1 + 8 * 5996))
        raises(self, BadBits(0), read, coding, "0" * 6000)
