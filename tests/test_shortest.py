"""Points 10 and 11: the shortest files, and heights."""

import unittest
from itertools import product

from leastfile.errors import BadNumber
from leastfile.files import read, text_of
from leastfile.formats import coded
from leastfile.shortest import check_heights, costs, how_many, least, shortest, shortest_at
from tests.helping import (GREAT, bits_of, check_wrong_texts, formats, pairs_to_try, picture, plain, raises,
                           steps_between, texts, things, ways_of)


def files_of(coding, text):
    """All files of a text, by length and then as strings are ordered."""
    return sorted([bits_of(coding.words, way) for way in ways_of(coding, text)], key=lambda bits: (len(bits), bits))


def are_heights(coding, text, bits, thing):
    if thing[0] != 0 or len(thing) != len(text) + 1:
        return False
    for at, command, behind in steps_between(coding, text):
        if thing[behind] > thing[at] + len(coding.words[command]):
            return False
    return thing[-1] + len(coding.words["end"]) >= bits


class TestShortest(unittest.TestCase):
    def test_examples(self):
        coding = plain()
        self.assertEqual([costs(coding, "ababab"), least(coding, "ababab")], [[0, 2, 4, 6, 8, 6, 8], 11])
        self.assertEqual([how_many(coding, "ababab"), shortest(coding, "ababab")], [2, "00010010111"])
        self.assertEqual(shortest_at(coding, "ababab", 1), "00011001111")

    def test_against_all_files(self):
        for coding, text in pairs_to_try():
            files = files_of(coding, text)
            bits = len(files[0])
            best = [file for file in files if len(file) == bits]
            self.assertEqual(least(coding, text), bits)
            self.assertEqual(shortest(coding, text), files[0])
            self.assertEqual(how_many(coding, text), len(best))
            self.assertEqual([shortest_at(coding, text, number) for number in range(len(best))], best)
            raises(self, BadNumber("number"), shortest_at, coding, text, len(best))

    def test_costs_against_all_ways(self):
        for coding, text in pairs_to_try():
            found = [len(files_of(coding, text[:at])[0]) - coding.price("end") for at in range(len(text) + 1)]
            self.assertEqual(costs(coding, text), found)

    def test_empty_text(self):
        for coding in formats():
            self.assertEqual(costs(coding, ""), [0])
            self.assertEqual(least(coding, ""), coding.price("end"))
            self.assertEqual([shortest(coding, ""), how_many(coding, "")], [coding.words["end"], 1])
            self.assertEqual(shortest_at(coding, "", 0), coding.words["end"])
            raises(self, BadNumber("number"), shortest_at, coding, "", 1)

    def test_arguments_by_name(self):
        coding = plain()
        self.assertEqual(costs(text="ab", coding=coding), [0, 2, 4])
        self.assertEqual(least(text="ab", coding=coding), 7)
        self.assertEqual(shortest(text="ab", coding=coding), "0001111")
        self.assertEqual(how_many(text="ab", coding=coding), 1)
        self.assertEqual(shortest_at(number=0, text="ab", coding=coding), "0001111")
        self.assertTrue(check_heights(thing=[0, 2, 4], bits=7, text="ab", coding=coding))

    def test_list_is_new(self):
        coding = plain()
        costs(coding, "ab").append(5)
        self.assertEqual(costs(coding, "ab"), [0, 2, 4])

    def test_least_file_is_not_that_of_least_words_by_length(self):
        # "a" then "aa" copied, or the other way round: the lesser word comes first, whatever its command is.
        coding = coded("a", {"a": 3, "end": 3, (2, 1): 2, (3, 1): 3})
        self.assertEqual(coding.words, {"a": "010", (2, 1): "00", (3, 1): "011", "end": "100"})
        self.assertEqual(shortest(coding, "a" * 6), "010" + "00" + "011" + "100")
        self.assertEqual(shortest_at(coding, "a" * 6, 1), "010" + "011" + "00" + "100")
        self.assertEqual(how_many(coding, "a" * 6), 2)

    def test_more_than_10_to_the_20(self):
        coding = coded("a", {"a": 2, "end": 2, (2, 1): 4})
        text = "a" * 400
        # Behind the first letter each row of letters and pairs has just the same price.
        ways = [1, 1]
        while len(ways) < 400:
            ways.append(ways[-1] + ways[-2])
        many = how_many(coding, text)
        self.assertEqual(many, ways[399])
        self.assertGreater(many, 10 ** 20)
        self.assertEqual(shortest_at(coding, text, 0), shortest(coding, text))
        self.assertEqual(shortest(coding, text), coding.words["a"] * 400 + coding.words["end"])
        word = coding.words[(2, 1)]
        last = coding.words["a"] + word * 199 + coding.words["a"] + coding.words["end"]
        self.assertEqual(shortest_at(coding, text, many - 1), last)
        for number in (many, many + 1, 10 * many, -1, -many):
            raises(self, BadNumber("number"), shortest_at, coding, text, number)
        numbers = [many * part // 97 for part in range(97)]
        found = [shortest_at(coding, text, number) for number in numbers]
        self.assertEqual(found, sorted(found))
        self.assertEqual(len(set(found)), 97)
        for bits in found:
            self.assertEqual((len(bits), text_of(coding, bits)), (802, text))
        self.check_number_of(coding, found[50], ways, numbers[50])

    def check_number_of(self, coding, bits, ways, number):
        """Count the files ahead of one with words for a below the word for the copy."""
        ahead = 0
        left = 400
        for command in read(coding, bits):
            if command == (2, 1):
                ahead += ways[left - 1]
                left -= 1
            left -= 1
        self.assertEqual(ahead, number)

    def test_long_texts(self):
        for coding in formats():
            text = (coding.letters * 400)[:400]
            bits = shortest(coding, text)
            self.assertEqual(text_of(coding, bits), text)
            self.assertEqual(len(bits), least(coding, text))
            self.assertTrue(check_heights(coding, text, len(bits), costs(coding, text)))

    def test_texts_that_the_package_returns(self):
        coding = coded("ab", {"a": 2, "b": 2, "end": 3, (8, 1): 3, (8, 2): 3})
        text = text_of(coding, coding.words["a"] + coding.words["b"] + coding.words[(8, 2)] * 300 + coding.words["end"])
        self.assertEqual(len(text), 2402)
        self.assertEqual(least(coding, text), 2 + 2 + 900 + 3)

    def test_wrong_texts(self):
        for function in (costs, least, shortest, how_many):
            check_wrong_texts(self, function)
        check_wrong_texts(self, shortest_at, 0)
        check_wrong_texts(self, shortest_at, None)
        check_wrong_texts(self, check_heights, 3, [0])
        check_wrong_texts(self, check_heights, 3, None)

    def test_wrong_numbers(self):
        for thing in things():
            if picture(thing) not in ("0", "1"):
                raises(self, BadNumber("number"), shortest_at, plain(), "ababab", thing)


class TestHeights(unittest.TestCase):
    def test_costs_are_heights(self):
        for coding, text in pairs_to_try():
            best = least(coding, text)
            heights = costs(coding, text)
            self.assertIs(check_heights(coding, text, best, heights), True)
            self.assertIs(check_heights(coding, text, best + 1, heights), False)
            self.assertIs(check_heights(coding, text, -GREAT, heights), True)
            self.assertIs(check_heights(coding, text, GREAT, heights), False)

    def test_each_height_changed(self):
        for coding, text in pairs_to_try()[::7]:
            best = least(coding, text)
            heights = costs(coding, text)
            for at in range(len(text) + 1):
                for more in (-GREAT, -3, -1, 1, 2, GREAT):
                    thing = heights[:at] + [heights[at] + more] + heights[at + 1:]
                    for bits in (best - 3, best - 1, best):
                        expected = are_heights(coding, text, bits, thing)
                        self.assertEqual(check_heights(coding, text, bits, thing), expected)

    def test_first_main_fact(self):
        coding = coded("ab", {"a": 2, "b": 2, "end": 3, (2, 1): 2, (2, 2): 3})
        for text in texts("ab", 3):
            best = least(coding, text)
            for bits in (best - 1, best, best + 1):
                found = []
                for heights in product(range(-1, 8), repeat=len(text)):
                    thing = [0, *heights]
                    judged = check_heights(coding, text, bits, thing)
                    self.assertEqual(judged, are_heights(coding, text, bits, thing))
                    found.append(judged)
                self.assertEqual(any(found), bits <= best)

    def test_told_by_hand(self):
        coding = plain()
        self.assertTrue(check_heights(coding, "aaa", 8, [0, 2, 4, 5]))
        self.assertTrue(check_heights(coding, "aaa", 8, [0, 2, 3, 5]))
        self.assertTrue(check_heights(coding, "aaa", 7, [0, 1, -5, -1]) is False)
        self.assertFalse(check_heights(coding, "aaa", 8, [0, 2, 4, 6]))
        self.assertFalse(check_heights(coding, "aaa", 0, [0, 3, 4, 5]))
        self.assertFalse(check_heights(coding, "aaa", 0, [1, 2, 4, 5]))
        self.assertFalse(check_heights(coding, "aaa", 0, [-1, 1, 3, 4]))
        self.assertTrue(check_heights(coding, "", 3, [0]))
        self.assertFalse(check_heights(coding, "", 4, [0]))

    def test_any_thing(self):
        coding = plain()
        for thing in things():
            if picture(thing) not in (picture([0]), picture([2, 1])):
                self.assertIs(check_heights(coding, "", 0, thing), False)
            self.assertIs(check_heights(coding, "ab", -9, thing), False)
        wrong = [[0, 2], [0, 2, 4, 4], (0, 2, 4), [False, 2, 4], [0, True, 4], [0, 2, True], [0, "2", 4], [0, None, 4],
                 [0, [2], 4], {0: 0, 1: 2, 2: 4}, [[0, 2, 4]], [0, 2, (4,)], [0, 2, coding], "024"]
        self.assertTrue(check_heights(coding, "ab", 7, [0, 2, 4]))
        for thing in wrong:
            self.assertIs(check_heights(coding, "ab", -9, thing), False)

    def test_thing_is_not_changed(self):
        thing = [0, 2, 4]
        check_heights(plain(), "ab", 7, thing)
        self.assertEqual(thing, [0, 2, 4])
