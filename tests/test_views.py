"""Points 15 and 16: views, what is paid and gained, and how many views there are."""

import unittest

from leastfile.errors import BadText, BadView, TooMany
from leastfile.formats import coded
from leastfile.losses import greatest_loss, loss_at, worst_text
from leastfile.rules import Rule, packed
from leastfile.shares import check_ring, check_table, ring, share, table
from leastfile.views import first_view, rest, step, views
from tests.helping import (all_views, formats, picture, plain, raises, reckoned, rules, texts, things)

# Formats with just 3000 views, and with one more.
JUST = [
    (coded("ab", {"a": 4, "b": 2, "end": 4, (6, 1): 12, (5, 3): 4}), Rule("lazy")),
    (coded("ab", {"a": 6, "b": 5, "end": 8, (4, 2): 12, (2, 1): 2, (3, 5): 9, (2, 6): 11, (4, 1): 2}), Rule("longest")),
    (coded("abc", {"a": 1, "b": 5, "c": 6, "end": 2, (3, 2): 6, (3, 4): 3, (2, 4): 11, (2, 3): 9, (3, 3): 12,
                   (3, 1): 12}), Rule("cheapest")),
]
ONE_MORE = [
    (coded("abc", {"a": 6, "b": 3, "c": 4, "end": 5, (2, 1): 8, (5, 1): 12, (3, 2): 5, (4, 2): 10, (2, 2): 12}),
     Rule("longest")),
    (coded("ab", {"a": 4, "b": 6, "end": 2, (7, 2): 3, (4, 2): 8, (3, 1): 5, (8, 2): 8}), Rule("ahead", 3)),
]
# Eight distances, eight lengths: views without number.
FAR = coded("abcd", {"a": 2, "b": 3, "c": 3, "d": 3, "end": 4, (8, 8): 3, (2, 1): 5})


def told_texts(coding):
    """All short texts, and some long ones in which many copies can stand."""
    letters = coding.letters
    first, end = letters[0], letters[-1]
    found = texts(letters, {1: 5, 2: 5, 4: 2}[len(letters)])
    found += [first * 24, (first + end) * 12, (first * 3 + end * 2) * 5]
    return found + [(letters + first) * 6, end * 11 + first * 12]


def kinds_to_try(coding):
    """Rules with sights from 1 to 9, fewer of them for formats with many steps."""
    return rules() if len(coding.words) < 9 else [Rule("lazy"), Rule("cheapest"), Rule("ahead", 1), Rule("ahead", 6)]


class TestStep(unittest.TestCase):
    def test_first_view(self):
        self.assertEqual(first_view(), ("", 0, ()))
        self.assertEqual(picture(first_view()), picture(("", 0, ())))

    def test_against_all_letters_so_far(self):
        for coding in formats():
            for rule in kinds_to_try(coding):
                reckon = reckoned(coding, rule)
                for text in told_texts(coding):
                    if text != "":
                        view, paid, gained = reckon(text[:-1])
                        behind, all_paid, all_gained = reckon(text)
                        self.assertEqual(step(coding, rule, view, text[-1]),
                                         (behind, all_paid - paid, all_gained - gained), (text, rule.kind, rule.ahead))

    def test_long_texts_letter_by_letter(self):
        for coding in formats():
            for rule in kinds_to_try(coding):
                reckon = reckoned(coding, rule)
                for text in told_texts(coding)[-5:]:
                    view, paid, gained = first_view(), 0, 0
                    for at, letter in enumerate(text):
                        view, more, gain = step(coding, rule, view, letter)
                        paid += more
                        gained += gain
                        self.assertLess(view[1], rule.sight(coding))
                    self.assertEqual((view, paid, gained), reckon(text))

    def test_some_views(self):
        self.assertEqual(step(plain(), Rule("longest"), ("", 0, ()), "a"), (("a", 1, (-2,)), 0, 2))
        self.assertEqual(step(plain(), Rule("longest"), ("a", 1, (-2,)), "b"), (("ab", 2, (-2, -4)), 0, 2))
        self.assertEqual(step(plain(), Rule("longest"), ("ab", 2, (-2, -4)), "a"), (("aba", 2, (-2, -4)), 2, 2))
        self.assertEqual(step(plain(), Rule("longest"), ("abab", 2, (-2, -4)), "a"), (("baba", 0, (2, 0)), 2, -2))

    def test_gained_below_0(self):
        coding = coded("a", {"a": 3, "end": 1, (4, 1): 2})
        gains = []
        view = first_view()
        for _ in range(9):
            view, _, gained = step(coding, Rule("ahead", 1), view, "a")
            gains.append(gained)
        self.assertEqual(gains, [3, 3, 3, 3, -7, 3, 3, 3, -7])

    def test_without_copies(self):
        coding = coded("ab", {"a": 1, "b": 2, "end": 3})
        self.assertEqual(step(coding, Rule("longest"), first_view(), "b"), (("", 0, ()), 2, 2))
        self.assertEqual(step(coding, Rule("lazy"), first_view(), "b"), (("b", 1, ()), 0, 2))
        self.assertEqual(step(coding, Rule("lazy"), ("b", 1, ()), "a"), (("a", 1, ()), 2, 1))
        self.assertEqual(step(coding, Rule("ahead", 3), ("ab", 2, ()), "a"), (("ba", 2, ()), 1, 1))

    def test_kinds_of_values(self):
        for rule in rules():
            view, paid, gained = step(plain(), rule, ("", 0, ()), "b")
            self.assertEqual([type(item) for item in view], [str, int, tuple])
            self.assertEqual([type(paid), type(gained)], [int, int])
            self.assertEqual(picture(view), picture(reckoned(plain(), rule)("b")[0]))

    def test_arguments_by_name(self):
        self.assertEqual(step(letter="a", view=first_view(), rule=Rule("longest"), coding=plain()),
                         (("a", 1, (-2,)), 0, 2))
        self.assertEqual(rest(view=("a", 1, (-2,)), rule=Rule("lazy"), coding=plain()), 2)
        self.assertEqual(views(rule=Rule("longest"), coding=plain()), 45)

    def test_no_views(self):
        wrong = [("", 0), ("", 0, (), ()), ["", 0, ()], ("", 0, []), ("", False, ()), ("", 0, (True,)), ("", "0", ()),
                 (["a"], 1, (-2,)), ("a", 1, (-2, None)), ("A", 1, (-2,)), ("a b", 3, (0, 0)), (None, 0, ()),
                 ("", 0, 0), ("", (), 0), ("a\n", 1, ()), ("a", None, (-2,)), ("", 0, ((0,),)), ("", 0, ""),
                 ("\u00e9", 1, ())]
        for rule in (Rule("longest"), Rule("ahead", 8)):
            for thing in things() + wrong:
                raises(self, BadView(), step, plain(), rule, thing, "a")
                raises(self, BadView(), step, plain(), rule, thing, None)
                raises(self, BadView(), step, FAR, rule, thing, "a")

    def test_wrong_letters(self):
        for rule in (Rule("longest"), Rule("ahead", 8)):
            for thing in things():
                if picture(thing) not in (picture("a"), picture("b")):
                    raises(self, BadText(-1), step, plain(), rule, first_view(), thing)
            for letter in ("c", "z", "A", "", "ab", "aa", ("a",), ["a"]):
                raises(self, BadText(-1), step, plain(), rule, ("ab", 1, (-2, -4)), letter)
                # A text of any letters is let, whatever the format.
                raises(self, BadText(-1), step, plain(), rule, ("xyz", 1, (3,)), letter)

    def test_step_and_rest_never_tell_too_many(self):
        self.assertEqual(step(FAR, Rule("lazy"), first_view(), "d"), (("d", 1, (-3,)), 0, 3))
        self.assertEqual(rest(FAR, Rule("lazy"), ("d", 1, (-3,))), 3)


class TestRest(unittest.TestCase):
    def test_against_packed(self):
        for coding in formats():
            for rule in kinds_to_try(coding):
                reckon = reckoned(coding, rule)
                for text in told_texts(coding):
                    view, paid, _ = reckon(text)
                    bits = paid + rest(coding, rule, view) + coding.price("end")
                    self.assertEqual(bits, len(packed(coding, rule, text)), (text, rule.kind, rule.ahead))

    def test_nothing_waits(self):
        for rule in rules():
            self.assertEqual(rest(plain(), rule, first_view()), 0)
        self.assertEqual(rest(plain(), Rule("ahead", 1), ("abab", 0, (-2, -4))), 0)

    def test_copies_that_end_with_the_text(self):
        coding = coded("a", {"a": 3, "end": 1, (2, 1): 4, (4, 1): 2})
        for many, bits in enumerate((0, 3, 4, 7, 2)):
            if many < 4:
                self.assertEqual(rest(coding, Rule("longest"), ("aaaa", many, (7, 4, 1))), bits)
            self.assertEqual(rest(coding, Rule("ahead", 5), ("aaaaa", many, (7, 4, 1))), bits)


class TestViews(unittest.TestCase):
    def test_against_all_views(self):
        for coding in formats():
            for rule in kinds_to_try(coding):
                if len(coding.letters) == 1 or rule.sight(coding) + coding.window + coding.longest < 11:
                    self.assertEqual(views(coding, rule), len(all_views(coding.letters, reckoned(coding, rule))))

    def test_without_copies(self):
        for letters in ("a", "xy", "abc", "bcde"):
            coding = coded(letters, {command: 3 for command in [*letters, "end"]})
            self.assertEqual(views(coding, Rule("longest")), 1)
            self.assertEqual(views(coding, Rule("cheapest")), 1)
            self.assertEqual(views(coding, Rule("lazy")), 1 + len(letters))
            for ahead in range(1, 6):
                self.assertEqual(views(coding, Rule("ahead", ahead)), sum([len(letters) ** k for k in range(ahead)]))

    def test_just_3000(self):
        for coding, rule in JUST:
            self.assertEqual(views(coding, rule), 3000)
            self.assertEqual(len(table(coding, rule)), 3000)

    def test_one_more(self):
        for coding, rule in ONE_MORE:
            self.check_too_many(coding, rule)

    def test_many_more(self):
        four = coded("bcde", {"b": 3, "c": 3, "d": 3, "e": 3, "end": 3})
        self.assertEqual(views(four, Rule("ahead", 6)), 1365)
        self.check_too_many(four, Rule("ahead", 7))
        self.check_too_many(FAR, Rule("ahead", 1))

    def check_too_many(self, coding, rule):
        for function in (views, share, ring, table, greatest_loss, worst_text):
            raises(self, TooMany(3000), function, coding, rule)
        raises(self, TooMany(3000), loss_at, coding, rule, 0)
        for thing in (None, {}, [], ("", "a"), [(first_view(), (0, 1))]):
            raises(self, TooMany(3000), check_ring, coding, rule, thing)
            raises(self, TooMany(3000), check_table, coding, rule, (1, 1), thing)
