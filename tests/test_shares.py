"""Points 17 to 19: what a rule costs, and what shows it."""

import unittest
from fractions import Fraction

from leastfile.formats import coded
from leastfile.rules import Rule, packed
from leastfile.shares import check_ring, check_table, ring, share, table
from leastfile.shortest import least
from leastfile.views import rest
from tests.helping import (formats, is_table_for, picture, plain, quotient_of, rings_that_are_none, rows_of, rules,
                           tables_that_are_none, texts, things)

FIRST = ("", 0, ())


def pairs_to_show():
    """Pairs of a format and a rule with no great number of views, among them sights from 1 to 9."""
    found = [(plain(), rule) for rule in rules()[:8]]
    for coding in formats()[1:]:
        few = len(coding.letters) == 1
        found += [(coding, rule) for rule in rules()
                  if few or rule.sight(coding) + coding.window + coding.longest < 9 and rule.ahead < 6]
    without = coded("abcd", {"a": 1, "b": 3, "c": 3, "d": 4, "end": 4})
    found += [(without, Rule("longest")), (without, Rule("lazy")), (without, Rule("ahead", 3))]
    four = coded("bdxz", {"b": 3, "d": 2, "x": 4, "z": 5, "end": 4, (2, 1): 3, (3, 1): 4})
    found += [(four, rule) for rule in rules()[:4]]
    long = coded("a", {"a": 3, "end": 3, (8, 1): 4, (7, 2): 3, (2, 1): 9, (3, 8): 2})
    return found + [(long, rule) for rule in rules()]


class TestShare(unittest.TestCase):
    def test_shown_by_ring_and_table(self):
        # A ring with this quotient and a table for it, all reckoned anew, leave no other share.
        sights = set()
        for coding, rule in pairs_to_show():
            sights.add(rule.sight(coding))
            rows = rows_of(coding, rule)
            found = share(coding, rule)
            self.assertEqual(picture(found), picture((Fraction(*found).numerator, Fraction(*found).denominator)))
            self.assertGreaterEqual(Fraction(*found), 1)
            pair = ring(coding, rule)
            self.assertEqual([type(pair), type(pair[0]), type(pair[1]), len(pair)], [tuple, str, str, 2])
            self.assertLessEqual(max(len(pair[0]), len(pair[1])), 3000)
            self.assertEqual(quotient_of(rows, FIRST, pair), found)
            heights = table(coding, rule)
            self.assertEqual(picture(heights[0][0]), picture(FIRST))
            self.assertTrue(is_table_for(rows, FIRST, found, heights))
            for row in heights:
                self.assertEqual([type(row), type(row[0]), type(row[1]), len(row)], [tuple, tuple, tuple, 2])
                self.assertEqual(picture(row[1]), picture(Fraction(*row[1]).as_integer_ratio()))
            self.assertIs(check_ring(coding, rule, pair), True)
            self.assertIs(check_table(coding, rule, found, heights), True)
        self.assertEqual(sights, set(range(1, 10)))

    def test_known_shares(self):
        found = [share(plain(), rule) for rule in rules()]
        self.assertEqual(found[:7], [(4, 3), (4, 3), (8, 7), (3, 1), (3, 1), (4, 3), (8, 7)])
        # Only letters are taken, though 7 bits would do for 4 of them at 2 bits each.
        coding = coded("a", {"a": 7, "end": 1, (8, 1): 2})
        self.assertEqual(share(coding, Rule("ahead", 1)), (28, 1))
        self.assertEqual(share(coding, Rule("ahead", 8)), (1, 1))
        # "longest" takes 3 letters for 9 bits, where 3 letters cost 3.
        self.assertEqual(share(coded("a", {"a": 1, "end": 2, (3, 1): 9}), Rule("longest")), (3, 1))
        self.assertEqual(share(coded("a", {"a": 1, "end": 2, (3, 1): 9}), Rule("cheapest")), (1, 1))

    def test_without_copies(self):
        for letters in ("a", "ab", "wxyz"):
            coding = coded(letters, {command: number + 2 for number, command in enumerate([*letters, "end"])})
            for rule in rules()[:6]:
                self.assertEqual(share(coding, rule), (1, 1))
                self.assertIs(check_ring(coding, rule, ("", letters[-1] * rule.sight(coding))), rule.sight(coding) == 1)
                self.assertIs(check_ring(coding, rule, (letters[-1] * 9, letters[-1])), True)

    def test_no_text_costs_more(self):
        for coding, rule in pairs_to_show():
            if len(coding.letters) == 2:
                heights = table(coding, rule)
                top = max([Fraction(*height) for _, height in heights])
                most = max([rest(coding, rule, view) for view, _ in heights])
                r = Fraction(*share(coding, rule))
                for text in texts(coding.letters, 6):
                    bound = r * least(coding, text) + top + most - r * coding.price("end") + coding.price("end")
                    self.assertLessEqual(len(packed(coding, rule, text)), bound)

    def test_rings_on_and_on(self):
        for rule in rules()[:4]:
            begin, again = ring(plain(), rule)
            r = Fraction(*share(plain(), rule))
            less = [r * least(plain(), begin + again * many) - len(packed(plain(), rule, begin + again * many))
                    for many in range(3, 12)]
            self.assertEqual(less, less[:1] * 9)

    def test_arguments_by_name(self):
        pair = ring(rule=Rule("longest"), coding=plain())
        self.assertTrue(check_ring(thing=pair, rule=Rule("longest"), coding=plain()))
        heights = table(rule=Rule("longest"), coding=plain())
        r = share(rule=Rule("longest"), coding=plain())
        self.assertTrue(check_table(thing=heights, r=r, rule=Rule("longest"), coding=plain()))

    def test_results_are_new(self):
        first = table(plain(), Rule("longest"))
        kept = list(first)
        first.clear()
        self.assertEqual(table(plain(), Rule("longest")), kept)


class TestCheckRing(unittest.TestCase):
    def test_all_short_pairs(self):
        formats_and_rules = [(plain(), Rule("ahead", 1)),
                             (coded("a", {"a": 1, "end": 2, (3, 1): 9}), Rule("longest")),
                             (coded("ab", {"a": 2, "b": 3, "end": 2, (2, 1): 2}), Rule("longest")),
                             (coded("a", {"a": 2, "end": 2, (2, 2): 3, (3, 2): 5}), Rule("longest"))]
        for coding, rule in formats_and_rules:
            rows = rows_of(coding, rule)
            r = share(coding, rule)
            many = 12 if len(coding.letters) == 1 else 5
            found = 0
            for begin in texts(coding.letters, many):
                for again in texts(coding.letters, many + 1):
                    shows = quotient_of(rows, FIRST, (begin, again)) == r
                    self.assertIs(check_ring(coding, rule, (begin, again)), shows, (begin, again))
                    found += shows
            self.assertGreater(found, 0)

    def test_led_round_several_times(self):
        for coding, rule in pairs_to_show()[::5]:
            begin, again = ring(coding, rule)
            for many in (2, 3, 7):
                self.assertTrue(check_ring(coding, rule, (begin, again * many)))
                self.assertTrue(check_ring(coding, rule, (begin + again * many, again)))
            for at in range(len(again)):
                self.assertTrue(check_ring(coding, rule, (begin + again[:at], again[at:] + again[:at])))

    def test_3000_letters(self):
        coding = coded("a", {"a": 2, "end": 2})
        rule = Rule("longest")
        for begin, again, shows in ((3000, 1, True), (3001, 1, False), (0, 3000, True), (0, 3001, False),
                                    (3000, 3000, True), (10 ** 5, 10 ** 5, False)):
            self.assertIs(check_ring(coding, rule, ("a" * begin, "a" * again)), shows)

    def test_what_is_no_ring(self):
        for coding, rule in [(plain(), Rule("longest")), (formats()[1], Rule("lazy"))]:
            pair = ring(coding, rule)
            for wrong, thing in rings_that_are_none(coding.letters, pair):
                before = picture(thing)
                self.assertIs(check_ring(coding, rule, thing), False, wrong)
                self.assertEqual(picture(thing), before)
            for thing in things():
                self.assertIs(check_ring(coding, rule, thing), False)
                if not isinstance(thing, str):
                    self.assertIs(check_ring(coding, rule, (pair[0], thing)), False)
                    self.assertIs(check_ring(coding, rule, (thing, pair[1])), False)


class TestCheckTable(unittest.TestCase):
    def test_what_is_no_table(self):
        for coding, rule in [(plain(), Rule("longest")), (plain(), Rule("ahead", 3)), (formats()[1], Rule("longest")),
                             (formats()[1], Rule("lazy"))]:
            found = table(coding, rule)
            r = share(coding, rule)
            for wrong, thing in tables_that_are_none(found):
                before = picture(thing)
                self.assertIs(check_table(coding, rule, r, thing), False, wrong)
                self.assertEqual(picture(thing), before)
            for thing in things():
                self.assertIs(check_table(coding, rule, r, thing), False)
                self.assertIs(check_table(coding, rule, r, found + [thing]), False)
                if not isinstance(thing, tuple):
                    self.assertIs(check_table(coding, rule, r, found[:-1] + [(found[-1][0], thing)]), False)

    def test_any_order(self):
        found = table(plain(), Rule("lazy"))
        self.assertIs(check_table(plain(), Rule("lazy"), (8, 7), found[::-1]), True)
        self.assertIs(check_table(plain(), Rule("lazy"), (8, 7), sorted(found)), True)

    def test_other_heights(self):
        for coding, rule in pairs_to_show()[::3]:
            rows = rows_of(coding, rule)
            r = share(coding, rule)
            found = table(coding, rule)
            outcomes = set()
            for number, (view, (top, bottom)) in enumerate(found):
                for more in (Fraction(1, 10 ** 40), Fraction(-1, 10 ** 40), Fraction(3, 2)):
                    height = (Fraction(top, bottom) + more).as_integer_ratio()
                    thing = found[:number] + [(view, height)] + found[number + 1:]
                    holds = is_table_for(rows, FIRST, r, thing)
                    self.assertIs(check_table(coding, rule, r, thing), holds)
                    outcomes.add(holds)
                if number > 40:
                    break
            self.assertIn(False, outcomes)

    def test_other_fractions(self):
        for coding, rule in pairs_to_show():
            rows = rows_of(coding, rule)
            if len(rows) > 60:
                continue
            found = table(coding, rule)
            exact = Fraction(*share(coding, rule))
            for r in (exact, exact + Fraction(1, 10 ** 30), exact * 2, exact - Fraction(1, 10 ** 30), exact / 3):
                # Heights as great as all ways together let each fraction above the share hold, and none below it.
                for heights in (found, self.raised(rows, r, found)):
                    holds = is_table_for(rows, FIRST, (r.numerator, r.denominator), heights)
                    self.assertIs(check_table(coding, rule, (r.numerator, r.denominator), heights), holds)
                self.assertIs(holds, r >= exact)

    def raised(self, rows, r, found):
        """The least heights for a fraction, as far as some rounds lead."""
        heights = {view: None for view, _ in found}
        heights[FIRST] = Fraction(0)
        for _ in range(2 * len(found)):
            grown = False
            for (view, _), (behind, paid, gained) in rows.items():
                if heights[view] is not None:
                    due = heights[view] + paid - r * gained
                    if behind != FIRST and (heights[behind] is None or due > heights[behind]):
                        heights[behind] = due
                        grown = True
            if not grown:
                break
        return [(view, height.as_integer_ratio()) for view, height in heights.items()]
