"""Points 30 to 32: rules of a sight, their stands and the least share that they can have."""

import unittest
from fractions import Fraction

from leastfile.errors import BadSight, BadText, BadView, NoCommand, TooMany
from leastfile.formats import coded
from leastfile.shares import share
from leastfile.sights import behind, choices, ready, sight_share, stands
from tests.helping import formats, picture, plain, raises, rules, texts, things
from tests.standing import (FIRST, JUST, ONE_MORE, few, graph_of, greatest_quotient, rows_at, rows_of_stands, shown,
                            stand_of, ways_to_choose)

SIGHTS_THAT_ARE_NONE = [thing for thing in things() if type(thing) is not int or not 1 <= thing <= 6] + [7, 8, 100, -6]
STANDS_THAT_ARE_NONE = [
    ("", 0), ("", 0, (), ()), ["", 0, ()], ("", 0, []), ("", True, ()), ("", "0", ()), ("", 0, 0), ("", 0, (False,)),
    ("", 0, ("a",)), ("", 0, (None,)), ("A", 0, ()), ("a b", 0, ()), (None, 0, ()), (["a"], 0, ()), ("a", None, ()),
    ((), 0, ()), ("\u00e9", 0, ()), ("a", (), ()), ("a", 0, ((1,),)), (0, "", ()), ("a", [1], (2,)),
]


def places_in(coding, sight, text):
    """All places at which a rule of a sight may be behind a text."""
    places = {0}
    for number in range(len(text)):
        later = set()
        for at in places:
            row = rows_at(coding, sight, text[:number], at)[text[number]]
            later |= {place for _, _, place in row[2].values()}
        places = later
    return sorted(places)


class TestStands(unittest.TestCase):
    def test_against_whole_texts(self):
        for coding, sight in shown():
            letters = coding.letters
            told = texts(letters, {1: 7, 2: 4, 3: 3}[len(letters)])
            for text in told + [letters[0] * 15, (letters * 9)[:17]]:
                for at in places_in(coding, sight, text):
                    self.check_at(coding, sight, text, at)

    def check_at(self, coding, sight, text, at):
        stand = stand_of(coding, sight, text, at)
        for letter, (gained, coming, options) in rows_at(coding, sight, text, at).items():
            if coming is None:
                told = stand_of(coding, sight, text + letter, at)
                self.assertEqual(picture(ready(coding, sight, stand, letter)), picture((told, gained)))
                continue
            self.assertEqual(picture(ready(coding, sight, stand, letter)), picture((coming, gained)))
            self.assertEqual(picture(choices(coding, sight, coming)), picture(list(options)))
            for command, (_, told, place) in options.items():
                found = behind(coding, sight, coming, command)
                self.assertEqual(picture(found), picture(stand_of(coding, sight, told, place)))

    def test_some_stands(self):
        self.assertEqual(ready(plain(), 2, FIRST, "a"), (("a", 1, (-2,)), 2))
        self.assertEqual(ready(plain(), 2, ("a", 1, (-2,)), "b"), (("ab", 2, (-2, -4)), 2))
        self.assertEqual(ready(plain(), 3, ("abab", 2, (-2, -4)), "a"), (("ababa", 3, (2, 0)), -2))
        self.assertEqual(choices(plain(), 3, ("ababa", 3, (2, 0))), ["a", (3, 2)])
        self.assertEqual(choices(plain(), 2, ("bbabb", 2, (0, 0))), ["b"])
        self.assertEqual(choices(plain(), 3, ("bbbbb", 3, (0, 0))), ["b", (2, 1), (3, 2)])
        self.assertEqual(choices(plain(), 1, ("bbbbb", 1, (0, 0))), ["b"])
        self.assertEqual(behind(plain(), 3, ("bbbbb", 3, (0, 0)), "b"), ("bbbb", 2, (0, 0)))
        self.assertEqual(behind(plain(), 3, ("bbbbb", 3, (0, 0)), (2, 1)), ("bbbb", 1, (0, 0)))
        self.assertEqual(behind(plain(), 3, ("bbbbb", 3, (0, 0)), (3, 2)), ("bbbb", 0, (0, 0)))

    def test_without_copies(self):
        bare = coded("ab", {"a": 1, "b": 2, "end": 2})
        self.assertEqual(ready(bare, 1, FIRST, "b"), (("b", 1, ()), 2))
        self.assertEqual(behind(bare, 1, ("b", 1, ()), "b"), ("", 0, ()))
        self.assertEqual(ready(bare, 3, ("ab", 2, ()), "b"), (("abb", 3, ()), 2))
        self.assertEqual(choices(bare, 3, ("abb", 3, ())), ["a"])
        self.assertEqual(behind(bare, 3, ("abb", 3, ()), "a"), ("bb", 2, ()))

    def test_tail_below_the_only_copy(self):
        coding = coded("a", {"a": 2, "end": 2, (4, 3): 1})
        self.assertEqual(behind(coding, 2, ("aaaaaaa", 2, (0, 0, 0)), "a"), ("aaaaaa", 1, (0, 0, 0)))
        self.assertEqual(choices(coding, 3, ("aaaaaaa", 3, (0, 0, 0))), ["a"])
        self.assertEqual(choices(coding, 4, ("aaaaaaa", 4, (0, 0, 0))), ["a", (4, 3)])
        self.assertEqual(choices(coding, 4, ("aaaaaa", 4, (0, 0, 0))), ["a"])

    def test_number_of_stands(self):
        for coding, sight in shown():
            self.assertEqual(picture(stands(coding, sight)), picture(len(rows_of_stands(coding, sight))))
        self.assertEqual([stands(plain(), sight) for sight in range(1, 7)], [45, 55, 79, 129, 217, 393])
        for coding, sight in JUST:
            self.assertEqual(stands(coding, sight), 1000)
            self.assertEqual(len(rows_of_stands(coding, sight)), 1000)
        for coding, sight in ONE_MORE:
            raises(self, TooMany(1000), stands, coding, sight)
            self.assertEqual(len(rows_of_stands(coding, sight)), 1001)

    def test_arguments_by_name(self):
        self.assertEqual(ready(letter="a", stand=FIRST, sight=1, coding=plain()), (("a", 1, (-2,)), 2))
        self.assertEqual(choices(stand=("a", 1, (-2,)), sight=1, coding=plain()), ["a"])
        self.assertEqual(behind(command="a", stand=("a", 1, (-2,)), sight=1, coding=plain()), ("a", 0, (-2,)))
        self.assertEqual(stands(sight=1, coding=plain()), 45)
        self.assertEqual(sight_share(sight=1, coding=plain()), (3, 1))

    def test_lists_are_new(self):
        stand = ("bbbbb", 3, (0, 0))
        found = choices(plain(), 3, stand)
        found.clear()
        self.assertEqual(choices(plain(), 3, stand), ["b", (2, 1), (3, 2)])


class TestErrors(unittest.TestCase):
    def test_sights(self):
        for sight in SIGHTS_THAT_ARE_NONE:
            raises(self, BadSight(), ready, plain(), sight, None, None)
            raises(self, BadSight(), ready, plain(), sight, FIRST, "a")
            raises(self, BadSight(), choices, plain(), sight, None)
            raises(self, BadSight(), choices, plain(), sight, ("a", 1, (-2,)))
            raises(self, BadSight(), behind, plain(), sight, None, None)
            raises(self, BadSight(), behind, plain(), sight, ("a", 1, (-2,)), "a")
            raises(self, BadSight(), stands, plain(), sight)
            raises(self, BadSight(), sight_share, plain(), sight)
            raises(self, BadSight(), stands, ONE_MORE[0][0], sight)

    def test_stands(self):
        for thing in things() + STANDS_THAT_ARE_NONE:
            raises(self, BadView(), ready, plain(), 3, thing, "a")
            raises(self, BadView(), ready, plain(), 3, thing, None)
            raises(self, BadView(), choices, plain(), 3, thing)
            raises(self, BadView(), behind, plain(), 3, thing, "a")
            raises(self, BadView(), behind, plain(), 3, thing, None)

    def test_letters(self):
        for thing in things() + ["c", "aa", "A", "z"]:
            if picture(thing) not in (picture("a"), picture("b")):
                raises(self, BadText(-1), ready, plain(), 3, FIRST, thing)
                raises(self, BadText(-1), ready, plain(), 1, ("xyz", 4, (5,)), thing)

    def test_commands(self):
        stand = ("ababa", 3, (2, 0))
        for thing in things() + ["b", "end", (2, 1), (3, 1), (3, True), [3, 2], (3, 2, 1), "aba", ((3, 2),), "c", (2, 2)]:
            if picture(thing) not in (picture("a"), picture((3, 2))):
                raises(self, NoCommand(), behind, plain(), 3, stand, thing)
        for thing in ((3, 2), (2, 1), "a"):
            raises(self, NoCommand(), behind, plain(), 1, ("abbbb", 1, (0, 0)), thing)
        raises(self, NoCommand(), behind, plain(), 2, ("bbbbb", 2, (0, 0)), (3, 2))
        # (2, True) is == to a choice here.
        self.assertIn((2, 1), choices(plain(), 2, ("bbbbb", 2, (0, 0))))
        raises(self, NoCommand(), behind, plain(), 2, ("bbbbb", 2, (0, 0)), (2, True))

    def test_any_letters_in_a_stand(self):
        # Nothing is promised of the results, but these have the form of a stand.
        for stand in (("zz", 1, ()), ("", -3, ()), ("a" * 50, 0, (10 ** 50, -7))):
            raises(self, BadText(-1), ready, plain(), 3, stand, "c")
            raises(self, NoCommand(), behind, plain(), 3, ("ababa", 3, (10 ** 50, -1)), "b")

    def test_too_many(self):
        for coding, sight in ONE_MORE + [(formats()[5], 1), (formats()[5], 6)]:
            raises(self, TooMany(1000), stands, coding, sight)
            raises(self, TooMany(1000), sight_share, coding, sight)


class TestSightShare(unittest.TestCase):
    def test_against_each_way_to_choose(self):
        several = 0
        for coding, sight in few():
            rows = rows_of_stands(coding, sight)
            ways = ways_to_choose(rows)
            self.assertLess(len(ways), 4000)
            quotients = [greatest_quotient(graph_of(rows, taken)) for taken in ways]
            found = sight_share(coding, sight)
            self.assertEqual(picture(found), picture(min(quotients).as_integer_ratio()))
            several += len(set(quotients)) > 1
        self.assertGreater(several, 10)

    def test_known_shares(self):
        found = [sight_share(plain(), sight) for sight in range(1, 7)]
        self.assertEqual(found, [(3, 1), (3, 1), (8, 7), (8, 7), (8, 7), (10, 9)])
        bare = coded("abc", {"a": 1, "b": 2, "c": 3, "end": 3})
        self.assertEqual([sight_share(bare, sight) for sight in range(1, 6)], [(1, 1)] * 5)
        # The copy is longer than the first three sights.
        long = coded("ab", {"a": 2, "b": 3, "end": 2, (4, 1): 2})
        self.assertEqual([sight_share(long, sight) for sight in range(1, 6)], [(6, 1)] * 3 + [(1, 1)] * 2)

    def test_does_not_grow_and_is_at_most_that_of_each_rule(self):
        for coding in formats()[:3] + [few()[-1][0], few()[0][0]]:
            shares = [Fraction(*sight_share(coding, sight)) for sight in range(1, 6)]
            self.assertEqual(shares, sorted(shares, reverse=True))
            self.assertGreaterEqual(shares[-1], 1)
            for rule in rules():
                if rule.sight(coding) <= 5:
                    self.assertLessEqual(shares[rule.sight(coding) - 1], Fraction(*share(coding, rule)))

    def test_just_1000(self):
        self.assertEqual([sight_share(*pair) for pair in JUST], [(15, 2), (66, 49), (15, 1), (13, 8)])


if __name__ == "__main__":
    unittest.main()
