"""Point 12: files with few commands, and files through places."""

import unittest
from itertools import product

from leastfile.bounded import least_of, least_through, needs
from leastfile.errors import BadNumber, BadPlaces
from leastfile.formats import coded
from leastfile.shortest import least
from tests.helping import (GREAT, bits_of, check_wrong_texts, formats, pairs_to_try, picture, places_of, plain,
                           raises, things, ways_of)


class TestLeastOf(unittest.TestCase):
    def test_against_all_ways(self):
        for coding, text in pairs_to_try():
            ways = ways_of(coding, text)
            for most in range(len(text) + 2):
                found = [len(bits_of(coding.words, way)) for way in ways if len(way) <= most]
                self.assertEqual(least_of(coding, text, most), min(found, default=None))

    def test_dear_copies_for_few_commands(self):
        coding = coded("a", {"a": 1, "end": 3, (2, 1): 3, (4, 1): 6, (8, 1): 12})
        found = [least_of(coding, "a" * 9, most) for most in range(10)]
        self.assertEqual(found, [None, None, 16, 16, 16, 15, 14, 14, 13, 12])
        self.assertEqual(least_of(coding, "a" * 9, GREAT), 12)

    def test_bound_of_0(self):
        self.assertEqual(least_of(plain(), "", 0), 3)
        self.assertEqual(least_of(plain(), "", 5), 3)
        self.assertIsNone(least_of(plain(), "a", 0))

    def test_400_letters(self):
        every = {(length, distance): 12 - length % 3 for length in range(2, 9) for distance in range(1, 6)}
        for coding in (coded("ab", {"a": 2, "b": 2, "end": 3, **every}), plain()):
            for text in ("a" * 400, "ab" * 200, "abbab" * 80):
                self.assertEqual(least_of(coding, text, 400), least(coding, text))
                self.assertEqual(least_of(coding, text, GREAT), least(coding, text))
                found = [least_of(coding, text, most) for most in range(0, 401, 50)]
                known = [bits for bits in found if bits is not None]
                self.assertEqual(known, sorted(known, reverse=True))
                self.assertEqual(found[:9 - len(known)], [None] * (9 - len(known)))
        # Two letters, 132 copies of 3 and one of 2 are the fewest commands.
        self.assertEqual(least_of(plain(), "a" * 400, 135), 2 + 2 + 132 * 2 + 3 + 3)
        self.assertIsNone(least_of(plain(), "a" * 400, 134))

    def test_arguments_by_name(self):
        self.assertEqual(least_of(most=2, text="ab", coding=plain()), 7)
        self.assertEqual(least_through(places=[1], text="ab", coding=plain()), 7)
        self.assertEqual(needs(at=1, text="ab", coding=plain()), 0)

    def test_errors(self):
        check_wrong_texts(self, least_of, 3)
        check_wrong_texts(self, least_of, None)
        for thing in things():
            if not (type(thing) is int and thing >= 0):
                raises(self, BadNumber("most"), least_of, plain(), "ab", thing)


class TestLeastThrough(unittest.TestCase):
    def test_against_all_ways(self):
        for coding, text in pairs_to_try():
            if len(text) > 6:
                continue
            rows = [(len(bits_of(coding.words, way)), places_of(way)) for way in ways_of(coding, text)]
            for flags in product([False, True], repeat=len(text) + 1):
                places = [place for place in reversed(range(len(text) + 1)) if flags[place]]
                expected = min([bits for bits, met in rows if all([place in met for place in places])])
                self.assertEqual(least_through(coding, text, places), expected)
                self.assertEqual(least_through(coding, text, places[::-1] + places[1:]), expected)

    def test_told_by_hand(self):
        coding = plain()
        self.assertEqual(least_through(coding, "ababab", []), 11)
        self.assertEqual(least_through(coding, "ababab", [0, 6, 0]), 11)
        self.assertEqual(least_through(coding, "ababab", [4]), 15)
        self.assertEqual(least_through(coding, "ababab", [5, 2, 5]), 11)
        self.assertEqual(least_through(coding, "ababab", [3, 2]), 11)
        self.assertEqual(least_through(coding, "ababab", [3, 5]), 15)

    def test_empty_text(self):
        for coding in formats():
            self.assertEqual(least_through(coding, "", []), coding.price("end"))
            self.assertEqual(least_through(coding, "", [0, 0]), coding.price("end"))
            self.assertEqual(needs(coding, "", 0), 0)

    def test_places_are_not_changed(self):
        places = [4, 1, 4]
        least_through(plain(), "ababab", places)
        self.assertEqual(places, [4, 1, 4])

    def test_errors(self):
        check_wrong_texts(self, least_through, [0])
        check_wrong_texts(self, least_through, None)
        for thing in things():
            if picture(thing) not in (picture([]), picture([0]), picture([2, 1])):
                raises(self, BadPlaces(), least_through, plain(), "ab", thing)
        for places in ([3], [-1], [0, 1, 3], [True], [0, False], ["0"], [[0]], (0, 1), {0: 0}, [None], [1, GREAT]):
            raises(self, BadPlaces(), least_through, plain(), "ab", places)
        self.assertEqual(least_through(plain(), "ab", [2, 1]), 7)


class TestNeeds(unittest.TestCase):
    def test_against_all_ways(self):
        for coding, text in pairs_to_try():
            rows = [(len(bits_of(coding.words, way)), places_of(way)) for way in ways_of(coding, text)]
            best = min(rows)[0]
            for at in range(len(text) + 1):
                expected = min([bits for bits, met in rows if at in met]) - best
                self.assertEqual(needs(coding, text, at), expected)

    def test_first_and_last_place(self):
        for coding in formats():
            text = (coding.letters * 400)[:400]
            self.assertEqual([needs(coding, text, 0), needs(coding, text, 400)], [0, 0])

    def test_told_by_hand(self):
        self.assertEqual([needs(plain(), "ababab", at) for at in range(7)], [0, 0, 0, 0, 4, 0, 0])

    def test_errors(self):
        check_wrong_texts(self, needs, 0)
        check_wrong_texts(self, needs, None)
        for thing in things():
            if picture(thing) not in ("0", "1"):
                raises(self, BadNumber("at"), needs, plain(), "ab", thing)
        for at in (3, -1, True):
            raises(self, BadNumber("at"), needs, plain(), "ab", at)
