"""Point 40: formats without the copies that reach far back, or put many letters."""

import unittest
from fractions import Fraction

from leastfile.errors import BadNumber, TooMany
from leastfile.formats import Format, coded
from leastfile.narrowing import by_longest, by_window, least_longest, least_window, narrowed, shortened
from leastfile.pairs import share_of
from tests.helping import GREAT, formats, picture, plain, raises, things

NUMBERS_THAT_ARE_NONE = [thing for thing in things() if type(thing) is not int or thing < 0] + [-5]
FAR = coded("ab", {"a": 2, "b": 3, "end": 4, (8, 8): 3, (2, 1): 5})


def cases():
    """Formats whose views of two are few, also beside narrower ones."""
    long = coded("a", {"a": 3, "end": 3, (8, 1): 4, (7, 2): 3, (2, 1): 9, (3, 8): 2})
    steps = coded("a", {"a": 6, "end": 3, (2, 1): 8, (4, 2): 9, (5, 4): 4, (3, 3): 5})
    two = coded("ab", {"a": 4, "b": 3, "end": 3, (2, 1): 4, (3, 2): 5, (2, 3): 3})
    four = coded("bdxz", {"b": 3, "d": 2, "x": 4, "z": 5, "end": 4, (2, 1): 3})
    return [plain(), long, steps, two, four, coded("ab", {"a": 1, "b": 2, "end": 2})] + formats()[1:3] + formats()[6:]


def kept(coding, holds):
    words = coding.words
    return Format(coding.letters, {command: words[command] for command in words
                                   if isinstance(command, str) or holds(*command)})


class TestFormats(unittest.TestCase):
    def test_narrowed(self):
        for coding in formats() + cases():
            for window in list(range(10)) + [GREAT]:
                found = narrowed(coding, window)
                self.assertEqual(picture(found), picture(kept(coding, lambda length, distance: distance <= window)))
                self.assertLessEqual(found.window, window)
            self.assertEqual(narrowed(coding, coding.window), coding)
            self.assertEqual(narrowed(coding=coding, window=0).longest, 1)

    def test_shortened(self):
        for coding in formats() + cases():
            for longest in list(range(10)) + [GREAT]:
                found = shortened(coding, longest)
                self.assertEqual(picture(found), picture(kept(coding, lambda length, distance: length <= longest)))
                self.assertLessEqual(found.longest, max(1, longest))
            self.assertEqual(shortened(coding, coding.longest), coding)
            self.assertEqual(shortened(coding=coding, longest=1).window, 0)

    def test_errors(self):
        for number in NUMBERS_THAT_ARE_NONE:
            for coding in (plain(), FAR):
                raises(self, BadNumber("window"), narrowed, coding, number)
                raises(self, BadNumber("longest"), shortened, coding, number)


class TestShares(unittest.TestCase):
    def test_against_shares_of_two(self):
        several = {}
        for coding in cases():
            wanted = [(window, share_of(kept(coding, lambda length, distance: distance <= window), coding))
                      for window in range(coding.window + 1)]
            self.assertEqual(picture(by_window(coding)), picture(wanted))
            shares = [Fraction(*share) for _, share in wanted]
            self.assertEqual(shares, sorted(shares, reverse=True))
            self.assertEqual(shares[-1], 1)
            several[len(set(shares))] = True
            wanted = [(longest, share_of(kept(coding, lambda length, distance: length <= longest), coding))
                      for longest in range(1, coding.longest + 1)]
            self.assertEqual(picture(by_longest(coding)), picture(wanted))
            shares = [Fraction(*share) for _, share in wanted]
            self.assertEqual(shares, sorted(shares, reverse=True))
            self.assertEqual(shares[-1], 1)
            several[len(set(shares))] = True
        self.assertGreater(len(several), 2)

    def test_known_shares(self):
        self.assertEqual(by_window(plain()), [(0, (3, 1)), (1, (3, 1)), (2, (1, 1))])
        self.assertEqual(by_longest(coding=plain()), [(1, (3, 1)), (2, (3, 1)), (3, (1, 1))])
        bare = coded("ab", {"a": 1, "b": 2, "end": 2})
        self.assertEqual((by_window(coding=bare), by_longest(bare)), ([(0, (1, 1))], [(1, (1, 1))]))

    def test_least(self):
        for coding in cases():
            for pairs, function in ((by_window(coding), least_window), (by_longest(coding), least_longest)):
                shares = [Fraction(*share) for _, share in pairs]
                tried = shares + [share + Fraction(1, GREAT) for share in shares] + [Fraction(1), Fraction(GREAT)]
                tried += [share - Fraction(1, GREAT) for share in shares if share > 1]
                for r in tried:
                    wanted = min([number for number, share in pairs if Fraction(*share) <= r])
                    self.assertEqual(picture(function(coding, r.as_integer_ratio())), picture(wanted))
        self.assertEqual(least_window(r=(2, 1), coding=plain()), 2)
        self.assertEqual(least_longest(r=(3, 1), coding=plain()), 1)
        self.assertEqual((least_window(plain(), (3, 1)), least_longest(plain(), (1, 1))), (0, 3))

    def test_lists_are_new(self):
        by_window(plain()).clear()
        by_longest(plain()).clear()
        self.assertEqual((len(by_window(plain())), len(by_longest(plain()))), (3, 3))

    def test_too_many(self):
        # For the whole format there are too many views of two, though not for each narrower one.
        for coding in (FAR, formats()[5]):
            for function in (by_window, by_longest):
                raises(self, TooMany(3000), function, coding)
            for function in (least_window, least_longest):
                raises(self, TooMany(3000), function, coding, (GREAT, 1))
                raises(self, TooMany(3000), function, coding, (1, 1))


if __name__ == "__main__":
    unittest.main()
