"""Points 21 and 22: two formats with the same letters."""

import unittest
from fractions import Fraction

from leastfile.errors import BadText, BadView, OtherLetters, TooMany
from leastfile.formats import Format, coded
from leastfile.pairs import check_ring_of, check_table_of, ring_of, share_of, step_of_two, table_of
from leastfile.shortest import least
from tests.helping import (all_rows, formats, is_table_for, picture, plain, quotient_of, raises, reckoned_two,
                           rings_that_are_none, tables_that_are_none, texts, things)

FIRST = ("", (), ())
FAR = coded("ab", {"a": 2, "b": 3, "end": 4, (8, 8): 3, (2, 1): 5})
JUST = (coded("abc", {"a": 6, "b": 6, "c": 4, "end": 2, (3, 2): 11, (2, 1): 9, (4, 3): 1, (3, 3): 8}),
        coded("abc", {"a": 5, "b": 2, "c": 2, "end": 9, (2, 1): 5, (4, 3): 11, (4, 1): 5, (2, 2): 11}))
ONE_MORE = (coded("ab", {"a": 4, "b": 3, "end": 5}),
            coded("ab", {"a": 3, "b": 3, "end": 6, (8, 1): 11, (8, 2): 11, (7, 1): 10, (4, 1): 10}))


def pairs_to_show():
    """Pairs of formats with the same letters, each pair in both orders."""
    bare = coded("ab", {"a": 1, "b": 2, "end": 2})
    dear = coded("ab", {"a": 6, "b": 5, "end": 9, (2, 2): 4, (3, 1): 5})
    long = coded("a", {"a": 3, "end": 3, (8, 1): 4, (7, 2): 3, (2, 1): 9, (3, 8): 2})
    one = coded("a", {"a": 2, "end": 1, (3, 2): 3})
    four = coded("bdxz", {"b": 3, "d": 2, "x": 4, "z": 5, "end": 4, (2, 1): 3, (3, 1): 4})
    other = coded("bdxz", {"b": 1, "d": 4, "x": 4, "z": 4, "end": 4, (2, 2): 5})
    found = [(plain(), bare), (plain(), dear), (bare, dear), (formats()[1], long), (long, one), (four, other),
             (plain(), formats()[4])]
    return found + [(second, first) for first, second in found] + [(plain(), plain()), (long, long)]


ROWS = [all_rows(one.letters, reckoned_two(one, other)) for one, other in pairs_to_show()]


class TestStepOfTwo(unittest.TestCase):
    def test_against_all_letters_so_far(self):
        for one, other in pairs_to_show():
            letters = one.letters
            reckon = reckoned_two(one, other)
            told = texts(letters, {1: 5, 2: 6, 4: 3}[len(letters)]) + [letters[-1] * 20, (letters * 9)[:19]]
            for text in told[1:]:
                view, gained, other_gained = reckon(text[:-1])
                behind, all_gained, all_other = reckon(text)
                found = step_of_two(one, other, view, text[-1])
                self.assertEqual(picture(found), picture((behind, all_gained - gained, all_other - other_gained)))

    def test_some_views(self):
        bare = coded("ab", {"a": 1, "b": 2, "end": 2})
        self.assertEqual(step_of_two(plain(), bare, ("", (), ()), "b"), (("b", (-2,), ()), 2, 2))
        self.assertEqual(step_of_two(bare, plain(), ("", (), ()), "b"), (("b", (), (-2,)), 2, 2))
        self.assertEqual(step_of_two(plain(), bare, ("abab", (-2, -4), ()), "a"), (("baba", (2, 0), ()), -2, 1))
        self.assertEqual(step_of_two(bare, bare, ("", (), ()), "a"), (("", (), ()), 1, 1))

    def test_longer_tail_of_the_two(self):
        wide = coded("ab", {"a": 1, "b": 2, "end": 5, (2, 6): 4})
        long = coded("ab", {"a": 1, "b": 2, "end": 5, (5, 1): 4})
        text = "abbababbabba"
        self.assertEqual(reckoned_two(wide, long)(text)[0][0], text[-7:])
        view = reckoned_two(wide, long)(text)[0]
        self.assertEqual(step_of_two(wide, long, view, "b")[0], reckoned_two(wide, long)(text + "b")[0])

    def test_arguments_by_name(self):
        found = step_of_two(letter="a", view=FIRST, other=plain(), one=plain())
        self.assertEqual(found, (("a", (-2,), (-2,)), 2, 2))

    def test_errors(self):
        wrong = [("", ()), ("", (), (), ()), ["", (), ()], ("", [], ()), ("", (), []), ("", (True,), ()), ("", 0, ()),
                 ("", (), 0), ("", (), (False,)), (["a"], (), ()), ("A", (), ()), (None, (), ()), ("a b", (), ()),
                 ("", ("a",), ()), ((), "", ()), ("", "", ""), ("", (None,), ()), ("\u00e9", (), ())]
        for thing in things() + wrong:
            raises(self, BadView(), step_of_two, plain(), plain(), thing, "a")
            raises(self, BadView(), step_of_two, plain(), FAR, thing, None)
            raises(self, OtherLetters(), step_of_two, plain(), formats()[3], thing, "a")
        for thing in things() + ["c", "ab", "aa", "A"]:
            if picture(thing) not in (picture("a"), picture("b")):
                raises(self, BadText(-1), step_of_two, plain(), plain(), FIRST, thing)
                raises(self, BadText(-1), step_of_two, plain(), FAR, ("xyz", (3,), ()), thing)
            raises(self, OtherLetters(), step_of_two, plain(), formats()[1], FIRST, thing)
        self.assertEqual(step_of_two(FAR, FAR, FIRST, "b"), (("b", (-3,), (-3,)), 3, 3))


class TestShareOf(unittest.TestCase):
    def test_shown_by_ring_and_table(self):
        for (one, other), rows in zip(pairs_to_show(), ROWS):
            found = share_of(one, other)
            self.assertEqual(picture(found), picture(Fraction(*found).as_integer_ratio()))
            pair = ring_of(one, other)
            self.assertEqual([type(pair), type(pair[0]), type(pair[1]), len(pair)], [tuple, str, str, 2])
            self.assertLessEqual(max(len(pair[0]), len(pair[1])), 3000)
            self.assertEqual(quotient_of(rows, FIRST, pair), found)
            heights = table_of(one, other)
            self.assertTrue(is_table_for(rows, FIRST, found, heights))
            for row in heights:
                self.assertEqual([type(row), type(row[0]), type(row[1]), len(row)], [tuple, tuple, tuple, 2])
                self.assertEqual(picture(row[1]), picture(Fraction(*row[1]).as_integer_ratio()))
            self.assertIs(check_ring_of(one, other, pair), True)
            self.assertIs(check_table_of(one, other, found, heights), True)

    def test_known_shares(self):
        bare = coded("ab", {"a": 1, "b": 2, "end": 2})
        self.assertEqual(share_of(plain(), plain()), (1, 1))
        self.assertEqual(share_of(bare, coded("ab", {"a": 2, "b": 3, "end": 2})), (2, 3))
        self.assertEqual(share_of(coded("ab", {"a": 2, "b": 3, "end": 2}), bare), (2, 1))
        # Three times "b" costs the bare format 6 bits, and 2 where a copy puts them.
        self.assertEqual(share_of(bare, plain()), (3, 1))
        self.assertEqual(share_of(coded("a", {"a": 1, "end": 1}), coded("a", {"a": 12, "end": 2, (8, 1): 1})), (8, 1))
        self.assertEqual(share_of(coded("a", {"a": 12, "end": 2, (8, 1): 1}), coded("a", {"a": 1, "end": 1})), (1, 8))

    def test_no_text_costs_more(self):
        for one, other in pairs_to_show()[:3]:
            top = max([Fraction(*height) for _, height in table_of(one, other)])
            r = Fraction(*share_of(one, other))
            for text in texts("ab", 7):
                bound = r * (least(other, text) - other.price("end")) + top + one.price("end")
                self.assertLessEqual(least(one, text), bound)

    def test_same_prices_other_words(self):
        words = plain().words
        turned = Format("ab", {command: "".join(["10"[int(bit)] for bit in words[command]]) for command in words})
        self.assertEqual(share_of(plain(), turned), (1, 1))
        self.assertTrue(all([height == (0, 1) for _, height in table_of(plain(), turned)]))

    def test_arguments_by_name(self):
        bare = coded("ab", {"a": 1, "b": 2, "end": 2})
        self.assertEqual(share_of(other=plain(), one=bare), (3, 1))
        pair = ring_of(other=plain(), one=bare)
        self.assertTrue(check_ring_of(thing=pair, other=plain(), one=bare))
        heights = table_of(other=plain(), one=bare)
        self.assertTrue(check_table_of(thing=heights, r=(3, 1), other=plain(), one=bare))

    def test_just_3000(self):
        self.assertEqual(len(table_of(*JUST)), 3000)
        self.assertEqual(len(table_of(JUST[1], JUST[0])), 3000)

    def test_too_many(self):
        for one, other in [ONE_MORE, (ONE_MORE[1], ONE_MORE[0]), (FAR, FAR), (plain(), FAR)]:
            for function in (share_of, ring_of, table_of):
                raises(self, TooMany(3000), function, one, other)
            for thing in (None, {}, [], ("", "a"), [(FIRST, (0, 1))]):
                raises(self, TooMany(3000), check_ring_of, one, other, thing)
                raises(self, TooMany(3000), check_table_of, one, other, (1, 1), thing)

    def test_other_letters(self):
        for other in formats()[1:4] + formats()[5:] + [coded("abc", {"a": 3, "b": 3, "c": 3, "end": 3})]:
            for first, second in ((plain(), other), (other, plain()), (FAR, other)):
                for function in (share_of, ring_of, table_of):
                    raises(self, OtherLetters(), function, first, second)
                for thing in (None, [], ("", "a")):
                    raises(self, OtherLetters(), check_ring_of, first, second, thing)
                    raises(self, OtherLetters(), check_table_of, first, second, (1, 1), thing)


class TestJudges(unittest.TestCase):
    def test_all_short_pairs(self):
        for number in (0, 7, 9, 14):
            one, other = pairs_to_show()[number]
            r = share_of(one, other)
            found = 0
            for begin in texts("ab", 5)[-32:]:
                for again in texts("ab", 5):
                    shows = quotient_of(ROWS[number], FIRST, (begin, again)) == r
                    self.assertIs(check_ring_of(one, other, (begin, again)), shows)
                    found += shows
            self.assertGreater(found, 0, number)

    def test_led_round_several_times(self):
        for one, other in pairs_to_show():
            begin, again = ring_of(one, other)
            self.assertTrue(check_ring_of(one, other, (begin, again * 5)))
            self.assertTrue(check_ring_of(one, other, (begin + again * 5, again)))

    def test_what_is_none(self):
        for one, other in pairs_to_show()[:5]:
            pair = ring_of(one, other)
            found = table_of(one, other)
            r = share_of(one, other)
            cases = [(check_ring_of, (), wrong, thing) for wrong, thing in rings_that_are_none(one.letters, pair)]
            cases += [(check_table_of, (r,), wrong, thing) for wrong, thing in tables_that_are_none(found)]
            cases += [(check_ring_of, (), "thing", thing) for thing in things()]
            cases += [(check_table_of, (r,), "thing", thing) for thing in things()]
            for function, more, wrong, thing in cases:
                before = picture(thing)
                self.assertIs(function(one, other, *more, thing), False, wrong)
                self.assertEqual(picture(thing), before)

    def test_other_fractions(self):
        for (one, other), rows in zip(pairs_to_show(), ROWS):
            found = table_of(one, other)
            exact = Fraction(*share_of(one, other))
            for r in (exact, exact + Fraction(1, 10 ** 30), exact * 2, exact - Fraction(1, 10 ** 30), exact / 2):
                holds = is_table_for(rows, FIRST, r.as_integer_ratio(), found)
                self.assertIs(check_table_of(one, other, r.as_integer_ratio(), found), holds)
                self.assertFalse(holds and r < exact)
