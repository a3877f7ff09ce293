"""Point 36: rules against rules."""

import unittest
from fractions import Fraction

from leastfile.errors import BadText, BadView, OtherLetters, TooMany
from leastfile.formats import Format, coded
from leastfile.ruled import (check_ring_of_rules, check_table_of_rules, ring_of_rules, share_of_rules, step_of_rules,
                             table_of_rules, unlike_packed)
from leastfile.rules import Rule, packed, taken
from tests.helping import (all_rows, formats, is_table_for, last, picture, plain, quotient_of, raises,
                           rings_that_are_none, rules, tables_that_are_none, texts, things)

FIRST = ("", 0, 0)
LONGEST, CHEAPEST, LAZY = [Rule(kind) for kind in ("longest", "cheapest", "lazy")]
BARE = coded("ab", {"a": 1, "b": 2, "end": 2})


def cases():
    """Two formats with the same letters and a rule for each of them."""
    dear = coded("ab", {"a": 6, "b": 5, "end": 9, (2, 2): 4, (3, 1): 5})
    long = coded("a", {"a": 3, "end": 3, (8, 1): 4, (7, 2): 3, (2, 1): 9, (3, 8): 2})
    one = coded("a", {"a": 2, "end": 1, (3, 2): 3})
    four = coded("bdxz", {"b": 3, "d": 2, "x": 4, "z": 5, "end": 4, (2, 1): 3})
    found = [(plain(), LONGEST, plain(), rule) for rule in rules()[:7]]
    found += [(plain(), LAZY, BARE, LONGEST), (plain(), LAZY, plain(), Rule("ahead", 4)), (plain(), LAZY, dear, LAZY),
              (dear, CHEAPEST, BARE, Rule("ahead", 2)), (BARE, LONGEST, BARE, LONGEST), (BARE, LAZY, dear, LONGEST),
              (four, CHEAPEST, four, Rule("ahead", 2)), (formats()[2], LAZY, formats()[2], CHEAPEST)]
    found += [(long, first, one, second) for first in rules()[:5] for second in rules()[1:5]]
    found += [(long, LAZY, long, LONGEST), (long, LAZY, long, LAZY), (long, Rule("ahead", 8), long, Rule("ahead", 7))]
    return found + [(other, second, one, rule) for one, rule, other, second in found[1:15]]


def reckoned_rules(one, rule, other, second):
    """A function that tells the view of a text and what the two rules have paid, from all letters so far."""
    many = max(one.window + rule.sight(one), other.window + second.sight(other)) - 1

    def reckon(text):
        places, sums = [], []
        for coding, each in ((one, rule), (other, second)):
            at = paid = 0
            while len(text) - at >= each.sight(coding):
                command = taken(coding, each, text, at)
                paid += coding.price(command)
                at += command[0] if isinstance(command, tuple) else 1
            places.append(len(text) - at)
            sums.append(paid)
        return ((last(text, many), places[0], places[1]), sums[0], sums[1])
    return reckon


ROWS = [all_rows(case[0].letters, reckoned_rules(*case)) for case in cases()]


class TestStepOfRules(unittest.TestCase):
    def test_against_all_letters_so_far(self):
        for case in cases():
            letters = case[0].letters
            reckon = reckoned_rules(*case)
            told = texts(letters, {1: 7, 2: 6, 4: 3}[len(letters)]) + [letters[-1] * 20, (letters * 9)[:19]]
            for text in told[1:]:
                view, paid, other_paid = reckon(text[:-1])
                behind, all_paid, all_other = reckon(text)
                found = step_of_rules(*case, view, text[-1])
                self.assertEqual(picture(found), picture((behind, all_paid - paid, all_other - other_paid)))

    def test_some_views(self):
        step = step_of_rules(plain(), LONGEST, BARE, LAZY, FIRST, "a")
        self.assertEqual(step, (("a", 1, 1), 0, 0))
        step = step_of_rules(plain(), LONGEST, BARE, LAZY, ("a", 1, 1), "b")
        self.assertEqual(step, (("ab", 2, 1), 0, 1))
        step = step_of_rules(BARE, LONGEST, BARE, Rule("ahead", 1), FIRST, "b")
        self.assertEqual(step, (("", 0, 0), 2, 2))
        # The tail is as long as the greater number asks for, whichever the format is.
        wide = coded("ab", {"a": 1, "b": 2, "end": 5, (2, 6): 4})
        for case in ((wide, Rule("ahead", 1), BARE, Rule("ahead", 8)), (BARE, Rule("ahead", 8), wide, Rule("ahead", 1)),
                     (wide, LONGEST, BARE, Rule("ahead", 7)), (wide, LAZY, plain(), LAZY)):
            text = "abbababbabba"
            view = reckoned_rules(*case)(text)[0]
            self.assertEqual(len(view[0]), 8 if case[1] == LAZY else 7)
            self.assertEqual(step_of_rules(*case, view, "b")[0], reckoned_rules(*case)(text + "b")[0])

    def test_arguments_by_name(self):
        found = step_of_rules(letter="a", view=FIRST, second=LAZY, other=BARE, rule=LONGEST, one=plain())
        self.assertEqual(found, (("a", 1, 1), 0, 0))

    def test_errors(self):
        wrong = [("", 0), ("", 0, 0, 0), ["", 0, 0], ("", 0, ()), ("", (), 0), ("", True, 0), ("", 0, False), (0, 0, 0),
                 ("A", 0, 0), (None, 0, 0), ("a b", 0, 0), ("", "", ""), ("", None, 0), (("",), 0, 0), ("\u00e9", 0, 0),
                 ("", 0, [0]), ("", 0, (0,))]
        for thing in things() + wrong:
            raises(self, BadView(), step_of_rules, plain(), LAZY, BARE, LONGEST, thing, "a")
            raises(self, BadView(), step_of_rules, plain(), LAZY, plain(), LAZY, thing, None)
            raises(self, OtherLetters(), step_of_rules, plain(), LAZY, formats()[3], LAZY, thing, "a")
        for thing in things() + ["c", "aa", "A"]:
            if picture(thing) not in (picture("a"), picture("b")):
                raises(self, BadText(-1), step_of_rules, plain(), LAZY, BARE, LAZY, FIRST, thing)
                raises(self, BadText(-1), step_of_rules, plain(), LAZY, BARE, LAZY, ("xyz", 3, 4), thing)
            raises(self, OtherLetters(), step_of_rules, plain(), LAZY, formats()[1], LAZY, FIRST, thing)
        # It is never too much for one step.
        self.assertEqual(step_of_rules(*TOO_MANY[0], FIRST, "a")[0], ("a", 1, 1))


class TestShareOfRules(unittest.TestCase):
    def test_shown_by_ring_and_table(self):
        for case, rows in zip(cases(), ROWS):
            found = share_of_rules(*case)
            self.assertEqual(picture(found), picture(Fraction(*found).as_integer_ratio()))
            pair = ring_of_rules(*case)
            self.assertEqual([type(pair), type(pair[0]), type(pair[1]), len(pair)], [tuple, str, str, 2])
            self.assertLessEqual(max(len(pair[0]), len(pair[1])), 3000)
            self.assertEqual(quotient_of(rows, FIRST, pair), found)
            heights = table_of_rules(*case)
            self.assertTrue(is_table_for(rows, FIRST, found, heights))
            for row in heights:
                self.assertEqual([type(row), type(row[0]), type(row[1]), len(row)], [tuple, tuple, tuple, 2])
                self.assertEqual([type(item) for item in row[0]], [str, int, int])
                self.assertEqual(picture(row[1]), picture(Fraction(*row[1]).as_integer_ratio()))
            self.assertIs(check_ring_of_rules(*case, pair), True)
            self.assertIs(check_table_of_rules(*case, found, heights), True)

    def test_known_shares(self):
        for rule in rules():
            self.assertEqual(share_of_rules(plain(), rule, plain(), rule), (1, 1))
        # Letters alone cost 2 bits each, and (3, 2) puts three letters with 2 bits.
        self.assertEqual(share_of_rules(plain(), Rule("ahead", 1), plain(), LONGEST), (3, 1))
        self.assertEqual(share_of_rules(plain(), LONGEST, plain(), Rule("ahead", 1)), (1, 1))
        self.assertEqual(share_of_rules(BARE, LAZY, coded("ab", {"a": 2, "b": 3, "end": 2}), LONGEST), (2, 3))
        self.assertEqual(share_of_rules(coded("a", {"a": 1, "end": 1}), LONGEST,
                                        coded("a", {"a": 12, "end": 2, (8, 1): 1}), LONGEST), (8, 1))
        self.assertEqual(share_of_rules(coded("a", {"a": 12, "end": 2, (8, 1): 1}), LONGEST,
                                        coded("a", {"a": 1, "end": 1}), LONGEST), (1, 8))

    def test_no_text_costs_more(self):
        for case in cases()[:12]:
            one, rule, other, second = case
            top = max([Fraction(*height) for _, height in table_of_rules(*case)])
            dear = max([one.price(letter) for letter in one.letters]) * rule.sight(one)
            r = Fraction(*share_of_rules(*case))
            for text in texts(one.letters, 7):
                bound = r * len(packed(other, second, text)) + top + dear + one.price("end")
                self.assertLessEqual(len(packed(one, rule, text)), bound)

    def test_arguments_by_name(self):
        named = {"second": LONGEST, "other": plain(), "rule": Rule("ahead", 1), "one": plain()}
        self.assertEqual(share_of_rules(**named), (3, 1))
        self.assertTrue(check_ring_of_rules(thing=ring_of_rules(**named), **named))
        self.assertTrue(check_table_of_rules(thing=table_of_rules(**named), r=(3, 1), **named))
        self.assertEqual(unlike_packed(**named), "aaa")

    def test_just_3000(self):
        for case in JUST:
            self.assertEqual(len(table_of_rules(*case)), 3000)

    def test_too_many(self):
        for case in TOO_MANY:
            for function in (share_of_rules, ring_of_rules, table_of_rules, unlike_packed):
                raises(self, TooMany(3000), function, *case)
            for thing in (None, {}, [], ("", "a"), [(FIRST, (0, 1))]):
                raises(self, TooMany(3000), check_ring_of_rules, *case, thing)
                raises(self, TooMany(3000), check_table_of_rules, *case, (1, 1), thing)

    def test_other_letters(self):
        far = TOO_MANY[0][0]
        for other in formats()[1:4] + formats()[5:] + [coded("abc", {"a": 3, "b": 3, "c": 3, "end": 3})]:
            for one, two in ((plain(), other), (other, plain()), (far, other)):
                for function in (share_of_rules, ring_of_rules, table_of_rules, unlike_packed):
                    raises(self, OtherLetters(), function, one, LAZY, two, Rule("ahead", 8))
                for thing in (None, [], ("", "a")):
                    raises(self, OtherLetters(), check_ring_of_rules, one, LAZY, two, LAZY, thing)
                    raises(self, OtherLetters(), check_table_of_rules, one, LAZY, two, LAZY, (1, 1), thing)


class TestJudges(unittest.TestCase):
    def test_all_short_pairs(self):
        for number in (0, 7, 40, 44):
            case = cases()[number]
            r = share_of_rules(*case)
            found = 0
            for begin in texts("ab", 5)[-32::3] + [ring_of_rules(*case)[0]]:
                for again in texts("ab", 5):
                    shows = quotient_of(ROWS[number], FIRST, (begin, again)) == r
                    self.assertIs(check_ring_of_rules(*case, (begin, again)), shows)
                    found += shows
            self.assertGreater(found, 0, number)

    def test_led_round_several_times(self):
        for case in cases():
            begin, again = ring_of_rules(*case)
            self.assertTrue(check_ring_of_rules(*case, (begin, again * 5)))
            self.assertTrue(check_ring_of_rules(*case, (begin + again * 5, again)))

    def test_what_is_none(self):
        for case in cases()[1:6] + cases()[11:13]:
            pair = ring_of_rules(*case)
            heights = table_of_rules(*case)
            r = share_of_rules(*case)
            found = [(check_ring_of_rules, (), *row) for row in rings_that_are_none(case[0].letters, pair)]
            found += [(check_table_of_rules, (r,), *row) for row in tables_that_are_none(heights)]
            found += [(check_ring_of_rules, (), "thing", thing) for thing in things()]
            found += [(check_table_of_rules, (r,), "thing", thing) for thing in things()]
            for function, more, wrong, thing in found:
                before = picture(thing)
                self.assertIs(function(*case, *more, thing), False, wrong)
                self.assertEqual(picture(thing), before)

    def test_other_fractions(self):
        for case, rows in list(zip(cases(), ROWS))[:20]:
            heights = table_of_rules(*case)
            exact = Fraction(*share_of_rules(*case))
            for r in (exact, exact + Fraction(1, 10 ** 30), exact * 2, exact - Fraction(1, 10 ** 30), exact / 2):
                holds = is_table_for(rows, FIRST, r.as_integer_ratio(), heights)
                self.assertIs(check_table_of_rules(*case, r.as_integer_ratio(), heights), holds)
                self.assertFalse(holds and r < exact)


class TestUnlikePacked(unittest.TestCase):
    def first_unlike(self, case, many):
        one, rule, other, second = case
        for text in texts(one.letters, many):
            if len(packed(one, rule, text)) != len(packed(other, second, text)):
                return text
        return None

    def test_against_all_short_texts(self):
        alike = late = 0
        for case in cases():
            found = unlike_packed(*case)
            many = {1: 30, 2: 10, 4: 5}[len(case[0].letters)]
            if found is None or len(found) > many:
                self.assertIsNone(self.first_unlike(case, many))
            else:
                self.assertEqual(picture(found), picture(self.first_unlike(case, many)))
            alike += found is None
            late += found is not None and len(found) > 3
        self.assertGreater(alike, 3)
        self.assertGreater(late, 5)

    def test_many_formats(self):
        lengths = {}
        for number in range(160):
            prices = {"a": 2 + number % 3, "b": 2 + number // 3 % 3, "end": 3, (2, 1): 3 + number // 9 % 4,
                      (3, 1 + number % 2): 4 + number // 7 % 3}
            coding = coded("ab", prices)
            case = (coding, rules()[number % 5], coding, rules()[(number // 5) % 6])
            found = unlike_packed(*case)
            if found is None or len(found) > 8:
                self.assertIsNone(self.first_unlike(case, 8))
            else:
                self.assertEqual(found, self.first_unlike(case, 8))
            lengths[None if found is None else len(found)] = True
        self.assertGreater(len(lengths), 4)

    def test_unlike_ends(self):
        for first, second in ((3, 4), (12, 1)):
            one = coded("ab", {"a": 3, "b": 3, "end": first})
            other = coded("ab", {"a": 3, "b": 3, "end": second})
            self.assertEqual(unlike_packed(one, LAZY, other, LONGEST), "")
            self.assertIsNone(unlike_packed(one, LAZY, one, LONGEST))

    def test_ends_that_make_up_for_it(self):
        # Other words with the same lengths; and what one "end" costs less, a letter costs more.
        words = plain().words
        turned = Format("ab", {command: "".join(["10"[int(bit)] for bit in words[command]]) for command in words})
        self.assertIsNone(unlike_packed(plain(), LAZY, turned, LAZY))
        one = coded("ab", {"a": 3, "b": 3, "end": 3, (3, 1): 4})
        self.assertEqual(unlike_packed(one, LONGEST, without_copies(one), LONGEST), "aaaa")

    def test_only_at_the_end_of_texts(self):
        # All that is paid stays the same as long as letters come; what waits is packed in another way.
        one = coded("a", {"a": 6, "end": 10, (3, 2): 1, (2, 1): 2})
        self.assertEqual(share_of_rules(one, LAZY, one, Rule("ahead", 8)), (1, 1))
        self.assertEqual(unlike_packed(one, LAZY, one, Rule("ahead", 8)), self.first_unlike(
            (one, LAZY, one, Rule("ahead", 8)), 40))


def without_copies(coding):
    return coded(coding.letters, {command: coding.price(command) for command in coding.commands()
                                  if isinstance(command, str)})


JUST = [(coded("ab", {"a": 7, "b": 1, "end": 3, (4, 3): 10, (5, 4): 8}), LAZY,
         coded("ab", {"a": 12, "b": 1, "end": 6, (4, 4): 10, (3, 2): 11}), Rule("ahead", 6)),
        (coded("ab", {"a": 8, "b": 2, "end": 12, (3, 4): 12}), CHEAPEST,
         coded("ab", {"a": 9, "b": 5, "end": 7, (3, 4): 11, (2, 2): 2, (3, 2): 10, (5, 3): 8}), Rule("ahead", 7)),
        (coded("ab", {"a": 1, "b": 7, "end": 12, (4, 4): 5, (3, 3): 12}), Rule("ahead", 7),
         coded("ab", {"a": 2, "b": 2, "end": 7, (2, 1): 6}), LAZY)]
TOO_MANY = [(coded("ab", {"a": 2, "b": 3, "end": 4, (8, 8): 3, (2, 1): 5}), LAZY, BARE, LAZY),
            (BARE, LAZY, coded("ab", {"a": 2, "b": 3, "end": 4, (8, 8): 3, (2, 1): 5}), LAZY),
            (coded("ab", {"a": 1, "b": 4, "end": 4, (4, 4): 3, (3, 2): 9}), Rule("ahead", 7),
             coded("ab", {"a": 9, "b": 2, "end": 2, (4, 4): 9}), LONGEST),
            (coded("ab", {"a": 10, "b": 9, "end": 4, (4, 2): 4, (3, 3): 3, (3, 2): 8, (4, 3): 3}), Rule("ahead", 8),
             coded("ab", {"a": 1, "b": 10, "end": 11, (3, 3): 4, (3, 4): 9}), CHEAPEST)]


if __name__ == "__main__":
    unittest.main()
