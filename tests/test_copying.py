"""Point 9: the copies that can stand at a place."""

import unittest

from leastfile.copying import copies
from leastfile.errors import BadNumber, BadText
from leastfile.formats import coded
from tests.helping import check_wrong_texts, pairs_to_try, picture, plain, raises, steps_between, things

ALL_SHORT = {(length, distance): 6 for length in (2, 3, 7, 8) for distance in range(1, 9)}


class TestCopies(unittest.TestCase):
    def test_told_by_hand(self):
        coding = plain()
        found = [copies(coding, "ababab", at) for at in range(7)]
        self.assertEqual(found, [[], [], [(3, 2)], [(3, 2)], [], [], []])
        found = [copies(coding, "aaaaa", at) for at in range(6)]
        self.assertEqual(found, [[], [(2, 1)], [(2, 1), (3, 2)], [(2, 1)], [], []])

    def test_against_trying_each_command(self):
        for coding, text in pairs_to_try():
            steps = steps_between(coding, text)
            for at in range(len(text) + 1):
                here = [command for place, command, _ in steps if place == at]
                expected = sorted([command for command in here if isinstance(command, tuple)])
                self.assertEqual(copies(coding, text, at), expected)

    def test_all_distances_in_their_order(self):
        coding = coded("a", {"a": 2, "end": 6, **ALL_SHORT})
        self.assertEqual(copies(coding, "a" * 20, 9), sorted(ALL_SHORT))
        self.assertEqual(copies(coding, "a" * 20, 7), sorted([copy for copy in ALL_SHORT if copy[1] < 8]))
        self.assertEqual(copies(coding, "a" * 20, 13), sorted([copy for copy in ALL_SHORT if copy[0] < 8]))
        self.assertEqual(copies(coding, "a" * 20, 18), [(2, distance) for distance in range(1, 9)])
        self.assertEqual(copies(coding, "a" * 20, 1), [(2, 1), (3, 1), (7, 1), (8, 1)])

    def test_far_back(self):
        coding = coded("ab", {"a": 2, "b": 2, "end": 3, (3, 8): 3})
        self.assertEqual(copies(coding, "aabbbbbbaab", 8), [(3, 8)])
        self.assertEqual(copies(coding, "aabbbbbbaaa", 8), [])
        self.assertEqual(copies(coding, "aabbbbbbaa", 8), [])

    def test_arguments_by_name(self):
        self.assertEqual(copies(at=2, text="aaaa", coding=plain()), [(2, 1)])

    def test_400_letters(self):
        self.assertEqual(copies(plain(), "ab" * 200, 397), [(3, 2)])
        self.assertEqual(copies(plain(), "ab" * 200, 398), [])

    def test_wrong_texts(self):
        check_wrong_texts(self, copies, 0)
        check_wrong_texts(self, copies, None)

    def test_letters_of_another_format(self):
        coding = coded("bd", {"b": 2, "d": 2, "end": 2})
        raises(self, BadText(1), copies, coding, "bad", 0)
        raises(self, BadText(2), copies, coding, "bdc", 9)

    def test_wrong_places(self):
        for thing in things():
            if picture(thing) not in ("0", "1"):
                raises(self, BadNumber("at"), copies, plain(), "ab", thing)
        for at in (-1, 3, True, "1"):
            raises(self, BadNumber("at"), copies, plain(), "ab", at)
        self.assertEqual(copies(plain(), "", 0), [])
        raises(self, BadNumber("at"), copies, plain(), "", 1)
