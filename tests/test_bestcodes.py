"""Point 39: the best prices for some texts."""

import unittest
from fractions import Fraction
from itertools import product

from leastfile.bestcodes import best_prices, is_best, total
from leastfile.errors import BadCopies, BadFormat, BadNumber, BadText, BadTexts
from leastfile.formats import Format, coded, room
from leastfile.shortest import least
from tests.helping import GREAT, formats, picture, plain, raises, things

CASES = [
    ("ab", [], ["aab"]), ("ab", [], [""]), ("ab", [(2, 1)], ["aab", "bbb", ""]), ("a", [(3, 1), (2, 1)], ["a" * 9, "aa"]),
    ("ab", [(3, 2), (2, 1)], ["ababababb", "aabb"]), ("abc", [(4, 3)], ["abcabcabc", "cab", "b"]), ("abcd", [], ["abcd"]),
    ("a", [(2, 1), (8, 1), (3, 8)], ["a" * 20]), ("az", [(8, 8), (2, 2)], ["azazazazazazazaz"] * 6), ("abcd", [], ["", ""]),
    ("k", [], ["kkkk", "k"]), ("ab", [(2, 1)], ["b"]), ("abc", [(2, 1)], ["a" * 7]), ("bd", [(5, 2), (3, 1)], ["dbdbdbdbddd", "b"]),
]
LETTERS_THAT_ARE_NONE = [thing for thing in things() if picture(thing) not in (picture("a"), picture("b"), picture("ab"))
                         and picture(thing) != picture("end")] + ["ba", "aa", "abcde", "A", "a ", "end"]
COPIES_THAT_ARE_NONE = [thing for thing in things() if thing != []] + [
    ((2, 1),), {(2, 1): 1}, [[2, 1]], [(2, 1), (2, 1)], [(2, 1), (3, 1), (2, 1)], [(2, True)], [(1, 1)], [(9, 1)], [(2, 9)],
    [(2, 0)], ["a"], ["end"], [(2, 1), "a"], [(2, 1), None], [(2, 1, 1)], "", [(2, 1), (3, 1), (4, 1)],
    [(2, 1), (3, 1), (4, 1), (5, 1)]]
TEXTS_THAT_ARE_NONE = [thing for thing in things() if thing != ["a"] and thing != ["a", "b"] and thing != []] + [
    ["a", None], [7], [["a"]], [("a",)], ["a", "b", True], ("a", "b"), "ab", {"a": "b"}]


def tried(letters, copies, texts, most):
    """The best prices, with a format made for each row of prices."""
    commands = list(letters) + sorted(copies) + ["end"]
    found = []
    for row in product(range(1, most + 1), repeat=len(commands)):
        if sum([Fraction(1, 2 ** price) for price in row]) <= 1:
            coding = coded(letters, dict(zip(commands, row)))
            found.append((sum([least(coding, text) for text in texts]), row))
    if not found:
        return None
    bits, row = min(found)
    return (bits, dict(zip(commands, row)))


class TestBestPrices(unittest.TestCase):
    def test_example(self):
        found = best_prices("ab", [], ["aab"], 2)
        self.assertEqual(picture(found), picture((6, {"a": 1, "b": 2, "end": 2})))

    def test_against_all_prices(self):
        for letters, copies, texts in CASES:
            for most in range(1, 6 if len(letters) + len(copies) < 4 else 4):
                wanted = tried(letters, copies, texts, most)
                found = best_prices(letters, copies, texts, most)
                if wanted is None:
                    self.assertIsNone(found)
                    continue
                self.assertEqual([type(found), type(found[0]), type(found[1])], [tuple, int, dict])
                self.assertEqual((found[0], sorted(map(str, found[1].items()))),
                                 (wanted[0], sorted(map(str, wanted[1].items()))))
                self.assertEqual(found[1], wanted[1])
                coding = coded(letters, found[1])
                self.assertEqual(total(coding, texts), found[0])
                self.assertEqual(room(coding), (0, 1))
                self.assertIs(is_best(coding, texts, most), True)

    def test_five_commands(self):
        for letters, copies, texts in (CASES[4], CASES[5], CASES[7]):
            self.assertEqual(best_prices(letters, copies, texts, 5), tried(letters, copies, texts, 5))

    def test_no_prices(self):
        # More commands than words.
        self.assertIsNone(best_prices("ab", [], ["aab"], 1))
        self.assertIsNone(best_prices("abcd", [], ["a"], 2))
        self.assertIsNone(best_prices("ab", [(2, 1), (3, 1)], [""], 2))
        self.assertEqual(best_prices("ab", [(2, 1)], [""], 2), (2, {"a": 2, "b": 2, (2, 1): 2, "end": 2}))
        self.assertEqual(best_prices("ab", [(2, 1)], [""], 5), (1, {"a": 2, "b": 3, (2, 1): 3, "end": 1}))
        self.assertEqual(best_prices("a", [], ["aaa"], 1), (4, {"a": 1, "end": 1}))

    def test_order_of_copies(self):
        one = best_prices("ab", [(3, 2), (2, 1)], ["ababab", "bb"], 4)
        other = best_prices("ab", [(2, 1), (3, 2)], ["ababab", "bb"], 4)
        self.assertEqual(one, other)
        # Rows are compared in the order of the commands, whatever the order of the list is.
        self.assertEqual(best_prices("a", [(3, 1), (2, 1)], ["a"], 3)[1], {"a": 1, (2, 1): 3, (3, 1): 3, "end": 2})

    def test_many_letters(self):
        texts = ["abab" * 5] * 6
        bits, prices = best_prices(most=5, texts=texts, copies=[(4, 2), (8, 4)], letters="ab")
        self.assertEqual(total(coded("ab", prices), texts), bits)
        self.assertEqual(texts, ["abab" * 5] * 6)

    def test_errors(self):
        for letters in LETTERS_THAT_ARE_NONE:
            raises(self, BadFormat("letters"), best_prices, letters, [], ["a"], 3)
            raises(self, BadFormat("letters"), best_prices, letters, None, None, None)
        for copies in COPIES_THAT_ARE_NONE:
            raises(self, BadCopies(), best_prices, "ab", copies, ["a"], 3)
            raises(self, BadCopies(), best_prices, "ab", copies, None, None)
        raises(self, BadCopies(), best_prices, "abcd", [(2, 1)], ["a"], 3)
        raises(self, BadCopies(), best_prices, "a", [(2, 1), (3, 1), (4, 1), (5, 1)], ["a"], 3)
        self.assertIsNotNone(best_prices("a", [(2, 1), (3, 1), (4, 1)], ["a"], 3))
        for texts in TEXTS_THAT_ARE_NONE + [[], ["a"] * 7, ["a"] * 20, ["c"] * 7]:
            raises(self, BadTexts(), best_prices, "ab", [], texts, 3)
            raises(self, BadTexts(), best_prices, "ab", [], texts, None)
        for texts, place in ((["c"], 0), (["ab", "aBa", "c"], 1), (["", "abc", "c"], 2), (["ab", "\n"], 0)):
            raises(self, BadText(place), best_prices, "ab", [], texts, 3)
            raises(self, BadText(place), best_prices, "ab", [], texts, 0)
        self.assertEqual(best_prices("ab", [], ["a"] * 6, 3)[0], 18)
        for most in [thing for thing in things() if type(thing) is not int or not 1 <= thing <= 5] + [6, GREAT]:
            raises(self, BadNumber("most"), best_prices, "ab", [], ["a"], most)


class TestTotal(unittest.TestCase):
    def test_sums(self):
        for coding in formats():
            first = coding.letters[0]
            for texts in ([], [""], [first], [first * 9, coding.letters, ""], [first * size for size in range(30)]):
                found = total(coding, texts)
                self.assertEqual(picture(found), picture(sum([least(coding, text) for text in texts])))
        self.assertEqual(total(texts=["ab", "ababab"], coding=plain()), 18)

    def test_errors(self):
        for texts in TEXTS_THAT_ARE_NONE:
            raises(self, BadTexts(), total, plain(), texts)
        raises(self, BadTexts(), total, plain(), ["c", 7])
        for texts, place in ((["c"], 0), (["ab", "aba", "abc", "c"], 2), (["a"] * 30 + ["aab "], 3)):
            raises(self, BadText(place), total, plain(), texts)


class TestIsBest(unittest.TestCase):
    def test_against_all_prices(self):
        found = {True: 0, False: 0}
        for letters, copies, texts in CASES[:8]:
            for most in range(1, 5):
                wanted = tried(letters, copies, texts, most)
                if wanted is None:
                    continue
                for command in wanted[1]:
                    for more in (0, 1, 7):
                        prices = {**wanted[1], command: wanted[1][command] + more}
                        coding = coded(letters, prices)
                        known = total(coding, texts) <= wanted[0]
                        self.assertIs(is_best(coding, texts, most), known)
                        found[known] += 1
        self.assertGreater(min(found.values()), 20)

    def test_some(self):
        good = coded("ab", {"a": 1, "b": 2, "end": 2})
        self.assertIs(is_best(most=2, texts=["aab"], coding=good), True)
        self.assertIs(is_best(good, ["abb"], 2), False)
        # There are no prices at all; and no better ones with at most 2 bits.
        self.assertIs(is_best(coded("ab", {"a": 12, "b": 12, "end": 12}), ["aab"], 1), True)
        self.assertIs(is_best(coded("ab", {"a": 2, "b": 2, "end": 1}), ["aab"], 2), False)
        self.assertIs(is_best(coded("ab", {"a": 1, "b": 3, "end": 2}), ["aab"], 2), False)
        # Only the lengths of the words count.
        self.assertIs(is_best(Format("ab", {"a": "1", "b": "00", "end": "01"}), ["aab"], 5), True)

    def test_room_for_a_used_command(self):
        # Such a format is not the best one; but a command that no shortest file has may leave room.
        loose = coded("ab", {"a": 1, "b": 3, "end": 3})
        self.assertEqual(room(loose), (1, 4))
        for most in (3, 4, 5):
            self.assertIs(is_best(loose, ["ab"], most), False)
        unused = coded("a", {"a": 1, (2, 1): 5, "end": 2})
        self.assertIs(is_best(unused, ["aa"], 5), True)
        self.assertEqual(room(unused), (7, 32))

    def test_errors(self):
        for coding in formats()[3:]:
            if len(coding.commands()) > 5:
                raises(self, BadCopies(), is_best, coding, ["a"], 3)
                raises(self, BadCopies(), is_best, coding, None, None)
        self.assertIs(is_best(formats()[6], ["xy"], 1), True)
        for texts in TEXTS_THAT_ARE_NONE + [[], ["a"] * 7]:
            raises(self, BadTexts(), is_best, plain(), texts, 3)
            raises(self, BadTexts(), is_best, plain(), texts, 0)
        raises(self, BadText(1), is_best, plain(), ["ab", "acb"], 9)
        for most in [thing for thing in things() if type(thing) is not int or not 1 <= thing <= 5] + [6, GREAT]:
            raises(self, BadNumber("most"), is_best, plain(), ["a"], most)


if __name__ == "__main__":
    unittest.main()
