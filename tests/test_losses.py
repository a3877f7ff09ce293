"""Point 20: greatest losses."""

import unittest

from leastfile.errors import BadNumber
from leastfile.formats import coded
from leastfile.losses import greatest_loss, loss_at, worst_text
from leastfile.rules import Rule, loss
from leastfile.shares import share
from tests.helping import GREAT, formats, picture, plain, raises, rules, texts, things

# Formats of one letter with rules whose losses end: what they are, and the number of the letters of the worst text.
ENDING = [
    ({"a": 4, "end": 7, (3, 2): 9, (2, 2): 6}, Rule("ahead", 3), 1, 6),
    ({"a": 6, "end": 10, (3, 2): 1, (2, 1): 2}, Rule("lazy"), 10, 6),
    ({"a": 4, "end": 9, (2, 1): 2, (3, 2): 4}, Rule("cheapest"), 2, 6),
    ({"a": 4, "end": 10, (3, 2): 9, (3, 1): 5, (2, 2): 11}, Rule("longest"), 3, 6),
    ({"a": 3, "end": 11, (3, 1): 2, (4, 1): 4, (2, 2): 9}, Rule("cheapest"), 2, 9),
]


class TestGreatestLoss(unittest.TestCase):
    def test_known_losses(self):
        for prices, rule, most, many in ENDING:
            coding = coded("a", prices)
            losses = [loss(coding, rule, "a" * size) for size in range(60)]
            self.assertEqual((max(losses), losses.index(max(losses))), (most, many))
            self.assertEqual(greatest_loss(coding, rule), most)
            self.assertEqual(worst_text(coding, rule), "a" * many)
            self.assertEqual([loss_at(coding, rule, size) for size in range(60)], losses)
            self.assertEqual(share(coding, rule), (1, 1))

    def test_two_letters(self):
        for prices, ahead, most, text in [
            ({"a": 4, "b": 2, "end": 12, (3, 3): 6, (2, 4): 7}, 3, 1, "aaabaabaa"),
            ({"a": 1, "b": 6, "end": 12, (3, 3): 9, (2, 4): 2}, 4, 4, "abbaabbabb"),
        ]:
            coding = coded("ab", prices)
            rule = Rule("ahead", ahead)
            told = texts("ab", len(text))
            losses = [loss(coding, rule, each) for each in told]
            self.assertEqual((max(losses), told[losses.index(max(losses))]), (most, text))
            self.assertEqual((greatest_loss(coding, rule), worst_text(coding, rule)), (most, text))
            self.assertEqual([loss_at(coding, rule, size) for size in (0, len(text) - 1, len(text), 200)],
                             [0, 0, most, most])
            self.assertEqual(share(coding, rule), (1, 1))

    def test_one_letter(self):
        ends = endless = 0
        for number in range(120):
            prices = {"z": 2 + number % 4, "end": 3, (2, 1): 3 + number % 7, (3, 2): 3 + number % 5}
            prices[(4, 1 + number % 3)] = 4 + number % 6
            coding = coded("z", prices)
            rule = rules()[number % 11]
            losses = [loss(coding, rule, "z" * size) for size in range(40)]
            found = greatest_loss(coding, rule)
            if share(coding, rule) == (1, 1):
                ends += max(losses) > 0
                self.assertEqual(found, max(losses))
                self.assertEqual(worst_text(coding, rule), "z" * losses.index(max(losses)))
            else:
                endless += 1
                self.assertIsNone(found)
                self.assertIsNone(worst_text(coding, rule))
        self.assertGreater(ends, 10)
        self.assertGreater(endless, 10)

    def test_all_short_texts(self):
        for coding in formats()[:5] + formats()[6:]:
            for rule in rules()[:7]:
                if rule.sight(coding) + coding.window + coding.longest > 11 and len(coding.letters) > 1:
                    continue
                found = greatest_loss(coding, rule)
                self.assertEqual(found is None, share(coding, rule) != (1, 1))
                self.assertEqual(worst_text(coding, rule) is None, found is None)
                if found is not None:
                    told = texts(coding.letters, {1: 30, 2: 9}[len(coding.letters)])
                    losses = [loss(coding, rule, text) for text in told]
                    self.assertEqual(found, max(losses))
                    self.assertEqual(worst_text(coding, rule), told[losses.index(found)])

    def test_no_loss(self):
        without = coded("abc", {"a": 1, "b": 3, "c": 4, "end": 2})
        for rule in rules()[:6]:
            self.assertEqual((greatest_loss(without, rule), worst_text(without, rule)), (0, ""))

    def test_above_a_share_of_1(self):
        for rule in rules()[:4]:
            self.assertGreater(share(plain(), rule)[0], share(plain(), rule)[1])
            self.assertIsNone(greatest_loss(plain(), rule))
            self.assertIsNone(worst_text(plain(), rule))

    def test_arguments_by_name(self):
        coding = coded("a", ENDING[1][0])
        self.assertEqual(greatest_loss(rule=Rule("lazy"), coding=coding), 10)
        self.assertEqual(worst_text(rule=Rule("lazy"), coding=coding), "aaaaaa")
        self.assertEqual(loss_at(length=6, rule=Rule("lazy"), coding=coding), 10)


class TestLossAt(unittest.TestCase):
    def test_all_short_texts(self):
        for coding in (plain(), formats()[3], coded("abc", {"a": 2, "b": 2, "c": 3, "end": 3, (3, 1): 3, (2, 2): 4})):
            for rule in rules()[:6]:
                for length in range(7):
                    told = [text for text in texts(coding.letters, length) if len(text) == length]
                    self.assertEqual(loss_at(coding, rule, length), max([loss(coding, rule, text) for text in told]))

    def test_0_and_200(self):
        for coding in formats()[:5]:
            for rule in rules()[:5]:
                self.assertEqual(loss_at(coding, rule, 0), 0)
                if len(coding.letters) == 1:
                    self.assertEqual(loss_at(coding, rule, 200), loss(coding, rule, coding.letters * 200))
        # In a share of 4/3 each ring of 10 letters that costs 16 bits has 12 in a shortest file.
        found = [loss_at(plain(), Rule("longest"), length) for length in range(150, 201)]
        self.assertEqual([more - less for less, more in zip(found, found[10:])], [4] * 41)

    def test_wrong_lengths(self):
        far = coded("abcd", {"a": 2, "b": 3, "c": 3, "d": 3, "end": 4, (8, 8): 3, (2, 1): 5})
        for rule in (Rule("longest"), Rule("ahead", 5)):
            for thing in things() + [201, -1, GREAT, True, "5", [5], (5,)]:
                if picture(thing) not in ("0", "1", "7"):
                    raises(self, BadNumber("length"), loss_at, plain(), rule, thing)
                    # A wrong length is told ahead of too many views.
                    raises(self, BadNumber("length"), loss_at, far, rule, thing)
