"""Point 8: readers."""

import unittest

from leastfile.errors import BadBits, NoBits, NoUndo
from leastfile.formats import coded
from leastfile.readers import Reader
from tests.helping import GREAT, files_through, formats, picture, plain, raises, things


def reader_behind(coding, bits):
    reader = Reader(coding)
    for bit in bits:
        reader.push(bit)
    return reader


def shown(reader):
    return (reader.text(), reader.way(), reader.is_whole(), reader.may(), reader.lack())


class TestReader(unittest.TestCase):
    def test_example(self):
        reader = Reader(plain())
        self.assertEqual(reader.push("0"), "")
        self.assertEqual([reader.push("0"), reader.may(), reader.lack()], ["a", "01", 3])

    def test_first_state(self):
        for coding in formats():
            reader = Reader(coding=coding)
            self.assertEqual((reader.text(), reader.way(), reader.is_whole()), ("", [], False))
            self.assertEqual(reader.lack(), coding.price("end"))
            raises(self, NoUndo(), reader.undo)

    def test_may_where_a_copy_cannot_come(self):
        reader = Reader(plain())
        self.assertEqual(reader.may(), "01")
        reader.push("1")
        self.assertEqual((reader.may(), reader.lack()), ("1", 2))
        reader.push("1")
        self.assertEqual((reader.may(), reader.lack()), ("1", 1))
        raises(self, BadBits(2), reader.push, "0")
        self.assertEqual(reader.push("1"), "")
        self.assertEqual(shown(reader), ("", [], True, "", 0))
        only = reader_behind(coded("a", {"a": 12, "end": 12}), "00000000000")
        self.assertEqual((only.may(), only.lack()), ("01", 1))
        ten = Reader(coded("a", {"a": 1, "end": 12}))
        ten.push("1")
        self.assertEqual((ten.may(), ten.lack()), ("0", 11))

    def test_push_tells_the_letters(self):
        reader = Reader(plain())
        self.assertEqual([reader.push(bit) for bit in "000110111"], ["", "a", "", "b", "", "aba", "", "", ""])
        self.assertEqual(shown(reader), ("ababa", ["a", "b", (3, 2)], True, "", 0))

    def test_whole_file_takes_no_bit(self):
        reader = reader_behind(plain(), "00111")
        raises(self, BadBits(5), reader.push, "0")
        raises(self, BadBits(5), reader.push, bit="1")
        raises(self, NoBits(), reader.push, "")
        self.assertEqual(shown(reader), ("a", ["a"], True, "", 0))

    def test_no_bit(self):
        for begun in ("", "0", "00", "1", "111"):
            reader = reader_behind(plain(), begun)
            before = shown(reader)
            for thing in things():
                if picture(thing) not in (picture("0"), picture("1")):
                    raises(self, NoBits(), reader.push, thing)
            for thing in ("00", "2", " 0", ["0"], ("1",), 0, 1, True):
                raises(self, NoBits(), reader.push, thing)
            self.assertEqual(shown(reader), before)

    def test_wrong_bits_change_nothing(self):
        reader = reader_behind(plain(), "1")
        raises(self, BadBits(1), reader.push, "0")
        self.assertEqual(shown(reader), ("", [], False, "1", 2))
        self.assertEqual([reader.push("1"), reader.push("1"), reader.is_whole()], ["", "", True])

    def test_against_all_files(self):
        for coding in formats():
            files = files_through(coding, 8)
            begun = {}
            for bits in sorted(files, key=len):
                for cut in range(len(bits) + 1):
                    begun.setdefault(bits[:cut], len(bits) - cut)
            for bits in [bits for bits in begun if len(bits) <= 8]:
                reader = reader_behind(coding, bits)
                self.assertEqual(reader.may(), "".join([bit for bit in "01" if bits + bit in begun]))
                self.assertEqual(reader.lack(), begun[bits])
                self.assertEqual(reader.is_whole(), bits in files)
                for bit in "01":
                    if bits + bit not in begun:
                        raises(self, BadBits(len(bits)), reader.push, bit)
                if bits in files:
                    self.assertEqual((reader.way(), reader.text()), files[bits])

    def test_lists_are_new(self):
        reader = reader_behind(plain(), "0001")
        reader.way().clear()
        self.assertEqual(reader.way(), ["a", "b"])
        self.assertIsNot(reader.way(), reader.way())


class TestUndo(unittest.TestCase):
    def test_each_number_of_bits(self):
        for coding in formats():
            for bits in [bits for bits in files_through(coding, 8) if len(bits) >= 5][:40]:
                states = [shown(reader_behind(coding, bits[:cut])) for cut in range(len(bits) + 1)]
                for many in range(1, len(bits) + 1):
                    reader = reader_behind(coding, bits)
                    self.assertIsNone(reader.undo(many))
                    self.assertEqual(shown(reader), states[len(bits) - many])
                    for bit in bits[len(bits) - many:]:
                        reader.push(bit)
                    self.assertEqual(shown(reader), states[-1])

    def test_one_by_one(self):
        bits = "000110110111"
        reader = reader_behind(plain(), bits)
        for cut in reversed(range(len(bits))):
            reader.undo()
            self.assertEqual(shown(reader), shown(reader_behind(plain(), bits[:cut])))
        raises(self, NoUndo(), reader.undo)

    def test_all_bits_and_one_more(self):
        reader = reader_behind(plain(), "000110111")
        raises(self, NoUndo(), reader.undo, 10)
        raises(self, NoUndo(), reader.undo, many=GREAT)
        self.assertTrue(reader.is_whole())
        reader.undo(many=9)
        self.assertEqual(shown(reader), shown(Reader(plain())))

    def test_number_of_bad_bit_behind_undo(self):
        reader = reader_behind(plain(), "00011")
        reader.undo(4)
        reader.undo()
        reader.push("1")
        raises(self, BadBits(1), reader.push, "0")

    def test_wrong_numbers(self):
        reader = reader_behind(plain(), "0001")
        before = shown(reader)
        for thing in things():
            if picture(thing) != "1":
                raises(self, NoUndo(), reader.undo, thing)
        for thing in (0, -1, 5, True, "1", [1], None):
            raises(self, NoUndo(), reader.undo, thing)
        self.assertEqual(shown(reader), before)
