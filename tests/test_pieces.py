"""Point 37: texts cut into pieces."""

import unittest
from fractions import Fraction
from itertools import combinations

from leastfile.errors import BadNumber, BadText, BadView, TooMany
from leastfile.files import text_of
from leastfile.formats import coded
from leastfile.pieces import (best_cuts, check_ring_of_pieces, check_table_of_pieces, least_pieces, pieces,
                              ring_of_pieces, share_of_pieces, step_of_pieces, table_of_pieces)
from leastfile.shortest import costs, least, shortest
from tests.helping import (GREAT, all_rows, dearer, formats, is_table_for, last, pairs_to_try, picture, plain,
                           quotient_of, raises, rings_that_are_none, tables_that_are_none, texts, things, wrong_texts)

FIRST = ("", 0, (), ())
NUMBERS_THAT_ARE_NONE = [thing for thing in things() if type(thing) is not int or not 1 <= thing <= 8] + [9, -8, 100]
BARE = coded("ab", {"a": 1, "b": 2, "end": 2})


def cases():
    """Pairs of a format and the number of letters of its pieces."""
    long = coded("a", {"a": 3, "end": 3, (8, 1): 4, (7, 2): 3, (2, 1): 9, (3, 8): 2})
    four = coded("bdxz", {"b": 3, "d": 2, "x": 4, "z": 5, "end": 4, (2, 1): 3})
    cheap = coded("ab", {"a": 3, "b": 2, "end": 1, (2, 2): 4})
    found = [(plain(), m) for m in range(1, 9)] + [(BARE, m) for m in (1, 2, 8)] + [(cheap, m) for m in (1, 2, 3, 5)]
    found += [(long, m) for m in (1, 3, 7, 8)] + [(four, m) for m in (1, 2, 4)]
    return found + [(formats()[1], m) for m in (1, 4)] + [(formats()[2], m) for m in (1, 2, 8)] + [(formats()[6], 6)]


def cut(text, m):
    """The pieces of a text, one letter after another."""
    found = [""]
    for letter in text:
        if len(found[-1]) == m:
            found.append("")
        found[-1] += letter
    return found


def reckoned_pieces(coding, m):
    """A function that tells the view of a text, and what its pieces and the whole text have gained."""
    def reckon(text):
        whole = len(text) // m * m
        own = costs(coding, text[whole:])
        paid = sum([least(coding, text[at:at + m]) for at in range(0, whole, m)]) + own[-1]
        sums = costs(coding, text)
        tail = last(text, coding.window + coding.longest - 1)
        view = (tail, len(text) - whole, dearer(sums, coding.longest), dearer(own, coding.longest))
        return (view, paid, sums[-1])
    return reckon


ROWS = [all_rows(coding.letters, reckoned_pieces(coding, m)) for coding, m in cases()]


class TestPieces(unittest.TestCase):
    def test_short_texts(self):
        for coding, text in pairs_to_try():
            for m in (1, 2, 3, 5, 8):
                parts = cut(text, m)
                self.assertEqual(picture(pieces(coding, text, m)), picture([shortest(coding, part) for part in parts]))
                self.assertEqual(picture(least_pieces(coding, text, m)),
                                 picture(sum([least(coding, part) for part in parts])))
                self.assertEqual("".join([text_of(coding, bits) for bits in pieces(coding, text, m)]), text)

    def test_edges(self):
        # The empty text is one piece; pieces may be longer than the text; the last one may have fewer letters.
        self.assertEqual((least_pieces(plain(), "", 3), pieces(plain(), "", 3)), (3, ["111"]))
        self.assertEqual(pieces(plain(), "ab", 8), ["0001111"])
        self.assertEqual(pieces(plain(), "ababab", 6), [shortest(plain(), "ababab")])
        self.assertEqual(pieces(plain(), "ababab", 3), [shortest(plain(), "aba"), shortest(plain(), "bab")])
        self.assertEqual(pieces(plain(), "ababab", 4), [shortest(plain(), "abab"), shortest(plain(), "ab")])
        self.assertEqual(pieces(plain(), "aba", 1), ["00111", "01111", "00111"])
        self.assertEqual(len(pieces(plain(), "ab" * 200, 7)), 58)

    def test_lists_are_new(self):
        found = pieces(text="aba", m=2, coding=plain())
        found.clear()
        self.assertEqual(len(pieces(plain(), "aba", 2)), 2)
        self.assertEqual(least_pieces(text="aba", m=2, coding=plain()), 12)

    def test_errors(self):
        for text, place in wrong_texts():
            for m in (3, 0, None):
                raises(self, BadText(place), least_pieces, plain(), text, m)
                raises(self, BadText(place), pieces, plain(), text, m)
                raises(self, BadText(place), best_cuts, plain(), text, m)
        for m in NUMBERS_THAT_ARE_NONE:
            for text in ("", "ab"):
                raises(self, BadNumber("m"), least_pieces, plain(), text, m)
                raises(self, BadNumber("m"), pieces, plain(), text, m)


class TestStepOfPieces(unittest.TestCase):
    def test_against_all_letters_so_far(self):
        for coding, m in cases():
            letters = coding.letters
            reckon = reckoned_pieces(coding, m)
            told = texts(letters, {1: 9, 2: 6, 4: 3}[len(letters)]) + [letters[-1] * 20, (letters * 9)[:19]]
            for text in told[1:]:
                view, paid, gained = reckon(text[:-1])
                behind, all_paid, all_gained = reckon(text)
                found = step_of_pieces(coding, m, view, text[-1])
                self.assertEqual(picture(found), picture((behind, all_paid - paid, all_gained - gained)))

    def test_some_views(self):
        self.assertEqual(step_of_pieces(plain(), 2, FIRST, "b"), (("b", 1, (-2,), (-2,)), 2, 2))
        self.assertEqual(step_of_pieces(plain(), 2, ("b", 1, (-2,), (-2,)), "a"), (("ba", 0, (-2, -4), ()), 5, 2))
        self.assertEqual(step_of_pieces(plain(), 1, FIRST, "b"), (("b", 0, (-2,), ()), 5, 2))
        self.assertEqual(step_of_pieces(BARE, 3, ("", 1, (), ()), "b"), (("", 2, (), ()), 2, 2))
        # The whole text takes a copy that reaches back ahead of the piece.
        self.assertEqual(step_of_pieces(plain(), 4, ("abab", 0, (-2, -4), ()), "a"),
                         (("baba", 1, (2, 0), (-2,)), 2, -2))

    def test_pieces_longer_than_the_tail(self):
        coding = coded("ab", {"a": 3, "b": 2, "end": 2, (2, 1): 3})
        reckon = reckoned_pieces(coding, 8)
        view = reckon("abbabb")[0]
        self.assertEqual((view[0], view[1]), ("bb", 6))
        self.assertEqual(step_of_pieces(coding, 8, view, "b")[0], reckon("abbabbb")[0])

    def test_arguments_by_name(self):
        found = step_of_pieces(letter="b", view=FIRST, m=2, coding=plain())
        self.assertEqual(found, (("b", 1, (-2,), (-2,)), 2, 2))

    def test_errors(self):
        wrong = [("", 0, ()), ("", 0, (), (), ()), ["", 0, (), ()], ("", True, (), ()), ("", 0, [], ()), ("", 0, (), []),
                 ("", 0, (True,), ()), ("", 0, (), (None,)), ("A", 0, (), ()), (None, 0, (), ()), ("", (), 0, ()),
                 ("", 0, 0, ()), ("", 0, (), 0), (["a"], 0, (), ()), ("", "0", (), ()), ("a b", 0, (), ()),
                 ("\u00e9", 0, (), ())]
        for thing in things() + wrong:
            raises(self, BadView(), step_of_pieces, plain(), 3, thing, "a")
            raises(self, BadView(), step_of_pieces, plain(), 3, thing, None)
            raises(self, BadNumber("m"), step_of_pieces, plain(), 9, thing, None)
        for thing in things() + ["c", "aa", "A"]:
            if picture(thing) not in (picture("a"), picture("b")):
                raises(self, BadText(-1), step_of_pieces, plain(), 3, FIRST, thing)
                raises(self, BadText(-1), step_of_pieces, plain(), 3, ("xyz", 2, (3,), (4,)), thing)
        for m in NUMBERS_THAT_ARE_NONE:
            raises(self, BadNumber("m"), step_of_pieces, plain(), m, FIRST, "a")
            raises(self, BadNumber("m"), step_of_pieces, plain(), m, None, None)
        # It is never too much for one step.
        self.assertEqual(step_of_pieces(*TOO_MANY[0], FIRST, "a")[0][:2], ("a", 1))


class TestShareOfPieces(unittest.TestCase):
    def test_shown_by_ring_and_table(self):
        for (coding, m), rows in zip(cases(), ROWS):
            found = share_of_pieces(coding, m)
            self.assertEqual(picture(found), picture(Fraction(*found).as_integer_ratio()))
            pair = ring_of_pieces(coding, m)
            self.assertEqual([type(pair), type(pair[0]), type(pair[1]), len(pair)], [tuple, str, str, 2])
            self.assertLessEqual(max(len(pair[0]), len(pair[1])), 3000)
            self.assertEqual(quotient_of(rows, FIRST, pair), found)
            heights = table_of_pieces(coding, m)
            self.assertTrue(is_table_for(rows, FIRST, found, heights))
            for row in heights:
                self.assertEqual([type(row), type(row[0]), type(row[1]), len(row)], [tuple, tuple, tuple, 2])
                self.assertEqual([type(item) for item in row[0]], [str, int, tuple, tuple])
                self.assertEqual(picture(row[1]), picture(Fraction(*row[1]).as_integer_ratio()))
            self.assertIs(check_ring_of_pieces(coding, m, pair), True)
            self.assertIs(check_table_of_pieces(coding, m, found, heights), True)

    def test_known_shares(self):
        # Each letter of its own has 1 bit and 2 of "end"; three letters have 2 of "end".
        one = coded("a", {"a": 1, "end": 2})
        self.assertEqual([share_of_pieces(one, m) for m in (1, 2, 3, 8)], [(3, 1), (2, 1), (5, 3), (5, 4)])
        # "ab", with (3, 2) behind it, costs 2/3 of a bit for each letter.
        self.assertEqual(share_of_pieces(plain(), 1), (15, 2))

    def test_no_text_costs_more(self):
        for coding, m in cases()[:11]:
            top = max([Fraction(*height) for _, height in table_of_pieces(coding, m)])
            r = Fraction(*share_of_pieces(coding, m))
            for text in texts("ab", 8):
                bound = r * (least(coding, text) - coding.price("end")) + top + coding.price("end")
                self.assertLessEqual(least_pieces(coding, text, m), bound)

    def test_arguments_by_name(self):
        self.assertEqual(share_of_pieces(m=1, coding=plain()), (15, 2))
        self.assertTrue(check_ring_of_pieces(thing=ring_of_pieces(m=1, coding=plain()), m=1, coding=plain()))
        heights = table_of_pieces(m=1, coding=plain())
        self.assertTrue(check_table_of_pieces(thing=heights, r=(15, 2), m=1, coding=plain()))

    def test_just_3000(self):
        for coding, m in JUST:
            self.assertEqual(len(table_of_pieces(coding, m)), 3000)

    def test_too_many(self):
        for coding, m in TOO_MANY:
            for function in (share_of_pieces, ring_of_pieces, table_of_pieces):
                raises(self, TooMany(3000), function, coding, m)
            for thing in (None, {}, [], ("", "a"), [(FIRST, (0, 1))]):
                raises(self, TooMany(3000), check_ring_of_pieces, coding, m, thing)
                raises(self, TooMany(3000), check_table_of_pieces, coding, m, (1, 1), thing)
            self.assertEqual(least_pieces(coding, coding.letters[0], m), least(coding, coding.letters[0]))

    def test_wrong_numbers(self):
        for m in NUMBERS_THAT_ARE_NONE:
            for coding in (plain(), TOO_MANY[0][0]):
                for function in (share_of_pieces, ring_of_pieces, table_of_pieces):
                    raises(self, BadNumber("m"), function, coding, m)
                for thing in (None, [], ("", "a")):
                    raises(self, BadNumber("m"), check_ring_of_pieces, coding, m, thing)
                    raises(self, BadNumber("m"), check_table_of_pieces, coding, m, (1, 1), thing)


class TestJudges(unittest.TestCase):
    def test_all_short_pairs(self):
        for number in (0, 1, 12, 13):
            coding, m = cases()[number]
            r = share_of_pieces(coding, m)
            found = 0
            for begin in [ring_of_pieces(coding, m)[0], "", "abba", "babab"]:
                for again in texts("ab", 6):
                    shows = quotient_of(ROWS[number], FIRST, (begin, again)) == r
                    self.assertIs(check_ring_of_pieces(coding, m, (begin, again)), shows)
                    found += shows
            self.assertGreater(found, 0, number)

    def test_led_round_several_times(self):
        for coding, m in cases():
            begin, again = ring_of_pieces(coding, m)
            self.assertTrue(check_ring_of_pieces(coding, m, (begin, again * 5)))
            self.assertTrue(check_ring_of_pieces(coding, m, (begin + again * 5, again)))

    def test_what_is_none(self):
        for coding, m in cases()[:3] + cases()[9:12]:
            pair = ring_of_pieces(coding, m)
            heights = table_of_pieces(coding, m)
            r = share_of_pieces(coding, m)
            found = [(check_ring_of_pieces, (), *row) for row in rings_that_are_none(coding.letters, pair)]
            found += [(check_table_of_pieces, (r,), *row) for row in tables_that_are_none(heights)]
            found += [(check_ring_of_pieces, (), "thing", thing) for thing in things()]
            found += [(check_table_of_pieces, (r,), "thing", thing) for thing in things()]
            for function, more, wrong, thing in found:
                before = picture(thing)
                self.assertIs(function(coding, m, *more, thing), False, wrong)
                self.assertEqual(picture(thing), before)

    def test_other_fractions(self):
        for (coding, m), rows in list(zip(cases(), ROWS))[:20]:
            heights = table_of_pieces(coding, m)
            exact = Fraction(*share_of_pieces(coding, m))
            for r in (exact, exact + Fraction(1, 10 ** 30), exact * 2, exact - Fraction(1, 10 ** 30), exact / 2):
                holds = is_table_for(rows, FIRST, r.as_integer_ratio(), heights)
                self.assertIs(check_table_of_pieces(coding, m, r.as_integer_ratio(), heights), holds)
                self.assertFalse(holds and r < exact)


class TestBestCuts(unittest.TestCase):
    def tried(self, coding, text, most):
        """The best of all cuts, tried one by one."""
        found = []
        for many in range(len(text)):
            for cuts in combinations(range(1, len(text)), many):
                ends = list(cuts) + [len(text)]
                parts = [text[begin:end] for begin, end in zip([0] + ends, ends)]
                if max(map(len, parts)) <= most:
                    found.append((sum([least(coding, part) for part in parts]), cuts))
        return min(found) if text else (coding.price("end"), ())

    def test_against_all_cuts(self):
        cheap = [coded("ab", {"a": 3, "b": 3, "end": 1, (2, 1): 4}), coded("ab", {"a": 2, "b": 2, "end": 1})]
        for coding in [plain(), BARE, formats()[4]] + cheap:
            several = {}
            for text in texts("ab", 5) + ["ababababab", "aabbaabba", "aaaaaaaaa", "abbabaab"]:
                for most in (1, 2, 3, 4, 7, 100):
                    found = best_cuts(coding, text, most)
                    self.assertEqual(picture(found), picture(self.tried(coding, text, most)))
                    several[len(found[1])] = True
            self.assertGreater(len(several), 5)

    def test_one_and_four_letters(self):
        for coding in formats()[1:4] + formats()[5:]:
            first = coding.letters[0]
            for text in [first * many for many in range(10)] + [(coding.letters * 9)[:9], first + coding.letters]:
                for most in (1, 2, 5, 8, 20):
                    self.assertEqual(best_cuts(coding, text, most), self.tried(coding, text, most))

    def test_ties(self):
        # Cuts at any place cost the same: the least tuple begins as early as it may.
        even = coded("ab", {"a": 1, "b": 2, "end": 2})
        self.assertEqual(best_cuts(even, "aaaaa", 4), (9, (1,)))
        self.assertEqual(best_cuts(even, "aaaaa", 3), (9, (2,)))
        self.assertEqual(best_cuts(even, "aaaaa", 2), (11, (1, 3)))
        self.assertEqual(best_cuts(even, "aaaaa", 5), (7, ()))
        self.assertEqual(best_cuts(even, "", 1), (2, ()))
        self.assertEqual(best_cuts(even, "a", 1), (3, ()))
        self.assertEqual(best_cuts(most=1, text="aba", coding=even), (10, (1, 2)))

    def test_long_texts(self):
        text = "aab" * 133
        for most in (400, GREAT):
            bits, cuts = best_cuts(plain(), text, most)
            self.assertEqual((bits, cuts), (least(plain(), text), ()))
        bits, cuts = best_cuts(plain(), text, 8)
        self.assertEqual(len(cuts), 49)
        self.assertLessEqual(bits, least_pieces(plain(), text, 8))
        ends = list(cuts) + [len(text)]
        self.assertEqual(bits, sum([least(plain(), text[begin:end]) for begin, end in zip([0] + ends, ends)]))

    def test_wrong_numbers(self):
        for most in [thing for thing in things() if type(thing) is not int or thing < 1] + [-7]:
            for text in ("", "ab"):
                raises(self, BadNumber("most"), best_cuts, plain(), text, most)


JUST = [(coded("ab", {"a": 1, "b": 9, "end": 5, (3, 4): 4, (4, 3): 3, (4, 1): 7, (5, 1): 6, (2, 4): 7}), 1),
        (coded("abc", {"a": 12, "b": 8, "c": 2, "end": 6, (2, 1): 8, (4, 3): 9, (4, 2): 4, (2, 3): 12}), 1)]
TOO_MANY = [(coded("ab", {"a": 2, "b": 3, "end": 4, (8, 8): 3, (2, 1): 5}), 2),
            (coded("ab", {"a": 6, "b": 2, "end": 5, (5, 1): 5, (5, 3): 6, (3, 4): 6, (5, 4): 9, (2, 4): 12}), 1),
            (coded("abc", {"a": 6, "b": 10, "c": 4, "end": 9, (2, 2): 4, (4, 1): 1, (3, 1): 4, (3, 2): 8}), 6)]


if __name__ == "__main__":
    unittest.main()
