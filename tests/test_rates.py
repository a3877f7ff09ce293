"""Point 38: how many bits texts need for each letter."""

import unittest
from collections import Counter
from fractions import Fraction

from leastfile.errors import BadFlag, BadNumber, TooMany
from leastfile.formats import coded
from leastfile.rates import (cheapest_at, cheapest_rate, check_ring_of_rate, dearest_at, dearest_rate, ring_of_rate,
                             texts_with)
from leastfile.shortest import costs, least
from tests.helping import (GREAT, all_rows, dearer, formats, last, picture, plain, quotient_of, raises,
                           rings_that_are_none, texts, things)

FIRST = ("", ())
BARE = coded("ab", {"a": 1, "b": 2, "end": 2})
FLAGS_THAT_ARE_NONE = [thing for thing in things() if type(thing) is not bool] + ["True", "dear"]


def cases():
    long = coded("a", {"a": 3, "end": 3, (8, 1): 4, (7, 2): 3, (2, 1): 9, (3, 8): 2})
    four = coded("bdxz", {"b": 3, "d": 2, "x": 4, "z": 5, "end": 4, (2, 1): 3})
    three = coded("xyz", {"x": 2, "y": 2, "z": 3, "end": 3, (2, 1): 3, (3, 1): 3})
    below = coded("a", {"a": 3, "end": 1, (4, 1): 2})
    return [plain(), BARE, long, four, three, below, formats()[1], formats()[2], formats()[4], formats()[6],
            coded("q", {"q": 12, "end": 12}), coded("abcd", {"a": 2, "b": 2, "c": 3, "d": 3, "end": 3})]


def reckoned_rate(coding):
    """A function that tells the view of a text, what it has gained, and the number of its letters."""
    def reckon(text):
        sums = costs(coding, text)
        tail = last(text, coding.window + coding.longest - 1)
        return ((tail, dearer(sums, coding.longest)), sums[-1], len(text))
    return reckon


def extreme_quotient(rows, sign):
    """The greatest (1) or the least (-1) quotient of all rings, by the greatest sums of so many letters: Karp's way."""
    views = sorted({view for view, _ in rows})
    sums = [{FIRST: 0}]
    for _ in views:
        later = {}
        for (view, _), (behind, gained, _) in rows.items():
            if view in sums[-1]:
                total = sums[-1][view] + sign * gained
                later[behind] = max(total, later.get(behind, total))
        sums.append(later)
    many = len(views)
    found = [min([Fraction(sums[many][view] - sums[k][view], many - k) for k in range(many) if view in sums[k]])
             for view in sums[many]]
    return sign * max(found)


ROWS = [all_rows(coding.letters, reckoned_rate(coding)) for coding in cases()]


class TestAtALength(unittest.TestCase):
    def test_against_all_texts(self):
        for coding in cases():
            letters = coding.letters
            for length in range({1: 14, 2: 8, 3: 6, 4: 5}[len(letters)]):
                told = [text for text in texts(letters, length) if len(text) == length]
                found = [least(coding, text) for text in told]
                most, fewest = max(found), min(found)
                self.assertEqual(picture(dearest_at(coding, length)), picture((most, told[found.index(most)])))
                self.assertEqual(picture(cheapest_at(coding, length)), picture((fewest, told[found.index(fewest)])))
                counts = Counter(found)
                for bits in range(most + 3):
                    self.assertEqual(picture(texts_with(coding, length, bits)), picture(counts[bits]))

    def test_great_lengths(self):
        for coding in cases():
            for length in (37, 100):
                most, text = dearest_at(coding, length)
                fewest, other = cheapest_at(coding, length)
                self.assertEqual([len(text), len(other)], [length, length])
                self.assertEqual([least(coding, text), least(coding, other)], [most, fewest])
            self.assertEqual([texts_with(coding, length, bits) for bits in (fewest - 1, most + 1, GREAT)], [0, 0, 0])
            self.assertGreater(min(texts_with(coding, length, fewest), texts_with(coding, length, most)), 0)

    def test_all_numbers_add_up(self):
        for coding in cases()[:8]:
            for length in (30, 31):
                numbers = range(cheapest_at(coding, length)[0], dearest_at(coding, length)[0] + 1)
                self.assertEqual(sum([texts_with(coding, length, bits) for bits in numbers]),
                                 len(coding.letters) ** length)

    def test_edges(self):
        self.assertEqual((dearest_at(plain(), 0), cheapest_at(plain(), 0)), ((3, ""), (3, "")))
        self.assertEqual([texts_with(plain(), 0, bits) for bits in (0, 2, 3, 4)], [0, 0, 1, 0])
        # The first of all texts with the greatest and the least number: every text has the same.
        even = coded("abc", {"a": 2, "b": 2, "c": 2, "end": 2})
        self.assertEqual((dearest_at(even, 5), cheapest_at(even, 5)), ((12, "aaaaa"), (12, "aaaaa")))
        self.assertEqual((texts_with(even, 100, 202), texts_with(even, 100, 201)), (3 ** 100, 0))
        one = formats()[1]
        self.assertEqual((dearest_at(one, 100), cheapest_at(one, 100)), ((101, "a" * 100), (101, "a" * 100)))
        self.assertEqual(texts_with(bits=101, length=100, coding=one), 1)
        self.assertEqual((dearest_at(length=2, coding=BARE), cheapest_at(length=2, coding=BARE)), ((6, "bb"), (4, "aa")))

    def test_errors(self):
        wrong = [thing for thing in things() if type(thing) is not int] + [-1, 101, GREAT, -GREAT]
        for length in wrong:
            for coding in (plain(), TOO_MANY):
                raises(self, BadNumber("length"), dearest_at, coding, length)
                raises(self, BadNumber("length"), cheapest_at, coding, length)
                raises(self, BadNumber("length"), texts_with, coding, length, 3)
                raises(self, BadNumber("length"), texts_with, coding, length, -1)
        for bits in [thing for thing in things() if type(thing) is not int] + [-1, -GREAT]:
            for length in (0, 100):
                for coding in (plain(), TOO_MANY):
                    raises(self, BadNumber("bits"), texts_with, coding, length, bits)
        for length in (0, 1, 100):
            raises(self, TooMany(3000), dearest_at, TOO_MANY, length)
            raises(self, TooMany(3000), cheapest_at, TOO_MANY, length)
            raises(self, TooMany(3000), texts_with, TOO_MANY, length, 0)


class TestRates(unittest.TestCase):
    def test_against_all_rings(self):
        for coding, rows in zip(cases(), ROWS):
            if len(rows) < 500:
                for function, sign in ((dearest_rate, 1), (cheapest_rate, -1)):
                    found = function(coding)
                    self.assertEqual(picture(found), picture(extreme_quotient(rows, sign).as_integer_ratio()))

    def test_known_rates(self):
        self.assertEqual([(dearest_rate(coding), cheapest_rate(coding)) for coding in cases()[:3]],
                         [((2, 1), (2, 3)), ((2, 1), (1, 1)), ((3, 7), (3, 7))])
        self.assertEqual((dearest_rate(formats()[1]), cheapest_rate(formats()[1])), ((1, 1), (1, 1)))
        self.assertEqual((dearest_rate(cases()[10]), cheapest_rate(cases()[10])), ((12, 1), (12, 1)))
        self.assertEqual((dearest_rate(coding=BARE), cheapest_rate(coding=BARE)), ((2, 1), (1, 1)))
        for coding in cases():
            low, high = Fraction(*cheapest_rate(coding)), Fraction(*dearest_rate(coding))
            self.assertLessEqual(low, high)
            self.assertLessEqual(high, max([coding.price(letter) for letter in coding.letters]))

    def test_between_the_extremes(self):
        for coding in cases():
            low, high = Fraction(*cheapest_rate(coding)), Fraction(*dearest_rate(coding))
            over = [dearest_at(coding, length)[0] - high * length for length in (20, 40, 60, 80, 100)]
            under = [cheapest_at(coding, length)[0] - low * length for length in (20, 40, 60, 80, 100)]
            for found in (over, under):
                self.assertLess(max(found) - min(found), 30)

    def test_rings(self):
        for coding, rows in zip(cases(), ROWS):
            for dear, function in ((True, dearest_rate), (False, cheapest_rate)):
                pair = ring_of_rate(coding, dear)
                self.assertEqual([type(pair), type(pair[0]), type(pair[1]), len(pair)], [tuple, str, str, 2])
                self.assertLessEqual(max(len(pair[0]), len(pair[1])), 3000)
                self.assertEqual(quotient_of(rows, FIRST, pair), function(coding))
                self.assertIs(check_ring_of_rate(coding, dear, pair), True)
                begin, again = pair
                self.assertIs(check_ring_of_rate(coding, dear, (begin, again * 5)), True)
                self.assertIs(check_ring_of_rate(coding, dear, (begin + again * 5, again)), True)
                same = dearest_rate(coding) == cheapest_rate(coding)
                self.assertIs(check_ring_of_rate(coding, not dear, pair), same)
                self.assertIs(check_ring_of_rate(thing=pair, dear=dear, coding=coding), True)
                self.assertEqual(ring_of_rate(dear=dear, coding=coding), pair)

    def test_all_short_pairs(self):
        for number in (0, 1):
            coding = cases()[number]
            for dear, r in ((True, dearest_rate(coding)), (False, cheapest_rate(coding))):
                found = 0
                for begin in texts("ab", 5)[-16:] + [""]:
                    for again in texts("ab", 6):
                        shows = quotient_of(ROWS[number], FIRST, (begin, again)) == r
                        self.assertIs(check_ring_of_rate(coding, dear, (begin, again)), shows)
                        found += shows
                self.assertGreater(found, 0)

    def test_what_is_none(self):
        for coding in cases()[:4]:
            for dear in (True, False):
                pair = ring_of_rate(coding, dear)
                cases_of_wrong = rings_that_are_none(coding.letters, pair) + [("thing", thing) for thing in things()]
                for wrong, thing in cases_of_wrong:
                    before = picture(thing)
                    self.assertIs(check_ring_of_rate(coding, dear, thing), False, wrong)
                    self.assertEqual(picture(thing), before)

    def test_errors(self):
        for flag in FLAGS_THAT_ARE_NONE:
            for coding in (plain(), TOO_MANY):
                raises(self, BadFlag(), ring_of_rate, coding, flag)
                raises(self, BadFlag(), check_ring_of_rate, coding, flag, None)
                raises(self, BadFlag(), check_ring_of_rate, coding, flag, ("abba", "bba"))
        for dear in (True, False):
            raises(self, TooMany(3000), ring_of_rate, TOO_MANY, dear)
            for thing in (None, [], ("", "a"), ("", "")):
                raises(self, TooMany(3000), check_ring_of_rate, TOO_MANY, dear, thing)
        raises(self, TooMany(3000), dearest_rate, TOO_MANY)
        raises(self, TooMany(3000), cheapest_rate, TOO_MANY)

    def test_just_3000(self):
        self.assertEqual(len(all_rows("ab", reckoned_rate(JUST[0]))), 2 * 3000)
        self.assertEqual(len(all_rows("ab", reckoned_rate(ONE_MORE[0]))), 2 * 3001)
        for coding in JUST:
            self.assertLessEqual(Fraction(*cheapest_rate(coding)), Fraction(*dearest_rate(coding)))
            text = dearest_at(coding, 100)[1]
            self.assertEqual(least(coding, text), dearest_at(coding, 100)[0])
        for coding in ONE_MORE:
            raises(self, TooMany(3000), dearest_rate, coding)
            raises(self, TooMany(3000), texts_with, coding, 0, 0)


JUST = [coded("ab", {"a": 1, "b": 9, "end": 5, (3, 4): 4, (4, 3): 3, (4, 1): 7, (5, 1): 6, (2, 4): 7}),
        coded("abc", {"a": 12, "b": 8, "c": 2, "end": 6, (2, 1): 8, (4, 3): 9, (4, 2): 4, (2, 3): 12})]
ONE_MORE = [coded("ab", {"a": 6, "b": 2, "end": 5, (5, 1): 5, (5, 3): 6, (3, 4): 6, (5, 4): 9, (2, 4): 12}),
            coded("abc", {"a": 10, "b": 7, "c": 10, "end": 9, (2, 4): 7, (2, 1): 6, (3, 3): 9})]
TOO_MANY = coded("ab", {"a": 2, "b": 3, "end": 4, (8, 8): 3, (2, 1): 5})


if __name__ == "__main__":
    unittest.main()
