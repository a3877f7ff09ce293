"""Point 41: rules in the order of their shares, and what of a share is a rule's own."""

import unittest
from fractions import Fraction

from leastfile.errors import BadNumber, BadSight, TooMany
from leastfile.formats import coded
from leastfile.rankings import least_sight, lost_by, rules_by_share
from leastfile.rules import Rule
from leastfile.shares import share
from leastfile.sights import sight_share
from tests.helping import GREAT, formats, picture, plain, raises, rules, things
from tests.standing import ONE_MORE

FAR = coded("ab", {"a": 2, "b": 3, "end": 4, (8, 8): 3, (2, 1): 5})
NUMBERS_THAT_ARE_NONE = [thing for thing in things() if type(thing) is not int or not 1 <= thing <= 9] + [10, -9]


def cases():
    long = coded("a", {"a": 3, "end": 3, (8, 1): 4, (7, 2): 3, (2, 1): 9, (3, 8): 2})
    steps = coded("a", {"a": 6, "end": 3, (2, 1): 8, (4, 2): 9, (5, 4): 4, (3, 3): 5})
    small = coded("ab", {"a": 8, "b": 9, "end": 3, (3, 1): 8, (2, 1): 1})
    return [plain(), long, steps, small, coded("ab", {"a": 1, "b": 2, "end": 2})] + formats()[1:3] + formats()[6:]


class TestRulesByShare(unittest.TestCase):
    def test_against_all_shares(self):
        for coding in cases():
            for most in range(1, 10):
                if coding.letters == "xy" and most > 6:
                    continue
                wanted = [(share(coding, rule), rule) for rule in rules() if rule.sight(coding) <= most]
                # Python keeps the order of equals.
                wanted.sort(key=lambda pair: Fraction(*pair[0]))
                found = rules_by_share(coding, most)
                self.assertEqual(picture(found), picture(wanted))
                self.assertEqual([type(row) for row in found], [tuple] * len(wanted))

    def test_just_the_bound(self):
        names = [[(rule.kind, rule.ahead) for _, rule in rules_by_share(plain(), most)] for most in (1, 2, 3, 4)]
        self.assertEqual(names[0], [("ahead", 1)])
        self.assertEqual(names[1], [("ahead", 1), ("ahead", 2)])
        self.assertEqual(names[2], [("longest", 0), ("cheapest", 0), ("ahead", 3), ("ahead", 1), ("ahead", 2)])
        self.assertEqual(names[3], [("lazy", 0), ("ahead", 4), ("longest", 0), ("cheapest", 0), ("ahead", 3), ("ahead", 1),
                                    ("ahead", 2)])
        # Equal shares only: the order in which the rules are told.
        bare = coded("ab", {"a": 1, "b": 2, "end": 2})
        self.assertEqual(picture(rules_by_share(most=9, coding=bare)), picture([((1, 1), rule) for rule in rules()]))
        self.assertEqual(picture(rules_by_share(bare, 1)),
                         picture([((1, 1), Rule("longest")), ((1, 1), Rule("cheapest")), ((1, 1), Rule("ahead", 1))]))

    def test_lists_are_new(self):
        rules_by_share(plain(), 2).clear()
        self.assertEqual(len(rules_by_share(plain(), 2)), 2)

    def test_errors(self):
        for most in NUMBERS_THAT_ARE_NONE:
            for coding in (plain(), FAR):
                raises(self, BadNumber("most"), rules_by_share, coding, most)
        for most in (1, 2, 8, 9):
            raises(self, TooMany(3000), rules_by_share, FAR, most)
        # Only the rules with a greater sight have too many views here.
        four = formats()[3]
        counted = []
        for most in range(1, 10):
            try:
                counted.append(len(rules_by_share(four, most)))
            except TooMany as e:
                self.assertEqual(e.most, 3000)
                counted.append(None)
        self.assertEqual(counted[0], 1)
        self.assertIsNone(counted[-1])


class TestLeastSight(unittest.TestCase):
    def test_against_all_sights(self):
        for coding in [plain(), cases()[1], cases()[2], cases()[4]] + cases()[5:7]:
            shares = [Fraction(*sight_share(coding, sight)) for sight in range(1, 7)]
            tried = shares + [each + Fraction(1, GREAT) for each in shares] + [Fraction(1), Fraction(GREAT)]
            tried += [each - Fraction(1, GREAT) for each in shares if each > 1]
            for r in tried:
                fitting = [sight for sight in range(1, 7) if shares[sight - 1] <= r]
                found = least_sight(coding, r.as_integer_ratio())
                self.assertEqual(picture(found), picture(min(fitting) if fitting else None))

    def test_some(self):
        self.assertEqual([least_sight(plain(), r) for r in ((3, 1), (2, 1), (8, 7), (10, 9), (1, 1), (12, 11))],
                         [1, 3, 3, 6, None, None])
        self.assertEqual(least_sight(r=(GREAT, 1), coding=plain()), 1)

    def test_too_many(self):
        # Only the sights that are looked at can have too many stands.
        one = formats()[4]
        self.assertEqual([least_sight(one, r) for r in ((16, 5), (19, 9), (17, 12))], [1, 2, 3])
        raises(self, TooMany(1000), least_sight, one, (1, 1))
        raises(self, TooMany(1000), least_sight, ONE_MORE[0][0], (GREAT, 1))


class TestLostBy(unittest.TestCase):
    def test_against_both_shares(self):
        own = 0
        for coding in cases():
            for rule in rules():
                sight = rule.sight(coding)
                if sight > 6 or (coding.letters == "xy" and sight > 5):
                    continue
                wanted = Fraction(*share(coding, rule)) / Fraction(*sight_share(coding, sight))
                found = lost_by(coding, rule)
                self.assertEqual(picture(found), picture(wanted.as_integer_ratio()))
                self.assertGreaterEqual(wanted, 1)
                own += wanted > 1
        self.assertGreater(own, 5)

    def test_some(self):
        found = [lost_by(plain(), rule) for rule in rules()[:9]]
        self.assertEqual(found, [(7, 6), (7, 6), (1, 1), (1, 1), (1, 1), (7, 6), (1, 1), (35, 32), (9, 8)])
        self.assertEqual(lost_by(rule=Rule("ahead", 5), coding=plain()), (35, 32))

    def test_errors(self):
        for ahead in (7, 8):
            raises(self, BadSight(), lost_by, plain(), Rule("ahead", ahead))
            raises(self, TooMany(3000), lost_by, FAR, Rule("ahead", ahead))
        long = cases()[1]
        for rule in (Rule("longest"), Rule("cheapest"), Rule("lazy")):
            raises(self, BadSight(), lost_by, long, rule)
        raises(self, TooMany(3000), lost_by, FAR, Rule("ahead", 1))
        # Few views, but too many stands.
        coding, rule = formats()[3], Rule("ahead", 2)
        self.assertGreater(share(coding, rule)[0], 1)
        raises(self, TooMany(1000), lost_by, coding, rule)


if __name__ == "__main__":
    unittest.main()
