"""Points 25 and 26: texts that grow, and what shortest files keep."""

import unittest

from leastfile.errors import BadText, NoUndo
from leastfile.formats import coded
from leastfile.growing import Growing, kept
from leastfile.shortest import least, shortest
from tests.helping import (GREAT, bits_of, check_wrong_texts, formats, pairs_to_try, picture, plain, raises, texts,
                           things, ways_of, wrong_texts)


class Stop(Exception):
    """An error of the tests."""


def grown(text, coding=None):
    growing = Growing(coding or plain())
    growing.add_all(text)
    return growing


def state(growing):
    return (growing.text(), growing.least(), growing.file())


class GrowingCase(unittest.TestCase):
    def holds(self, growing, text, coding=None):
        """Check that the text is this one, and all that is told of it."""
        coding = coding or plain()
        self.assertEqual(state(growing), (text, least(coding, text), shortest(coding, text)))
        # What was taken off and put on leaves no trace in what comes next.
        more = coding.letters * 3
        self.assertEqual(growing.tried(more), [least(coding, text + more[:at + 1]) for at in range(len(more))])


class TestGrowing(GrowingCase):
    def test_letter_by_letter(self):
        for coding, text in pairs_to_try():
            growing = Growing(coding)
            self.assertEqual(state(growing), ("", coding.price("end"), coding.words["end"]))
            for at, letter in enumerate(text):
                self.assertEqual(growing.add(letter), least(coding, text[:at + 1]))
            self.assertEqual(state(growing), (text, least(coding, text), shortest(coding, text)))

    def test_all_at_once(self):
        for coding, text in pairs_to_try():
            growing = Growing(coding=coding)
            half = len(text) // 2
            found = growing.add_all(text[:half]) + growing.add_all(text=text[half:])
            self.assertEqual(found, [least(coding, text[:at + 1]) for at in range(len(text))])
            self.assertEqual(state(growing), (text, least(coding, text), shortest(coding, text)))
            self.assertEqual(growing.add_all(""), [])
            self.assertEqual(growing.text(), text)

    def test_400_letters(self):
        for coding in formats():
            text = ((coding.letters + coding.letters[0]) * 400)[:400]
            growing = Growing(coding)
            self.assertEqual(growing.add_all(text)[-1], least(coding, text))
            self.assertEqual(growing.file(), shortest(coding, text))
            growing.back(399)
            self.holds(growing, text[:1], coding)

    def test_example_numbers(self):
        growing = Growing(plain())
        self.assertEqual(growing.add_all("ababab"), [5, 7, 9, 11, 9, 11])
        self.assertEqual(growing.file(), "00010010111")

    def test_results(self):
        growing = Growing(plain())
        found = growing.add_all("abab")
        found.clear()
        self.assertEqual(growing.tried("a"), [9])
        self.assertIsNone(growing.back())
        self.assertEqual(type(growing.add(letter="a")), int)

    def test_objects_are_apart(self):
        coding = plain()
        one, other = Growing(coding), Growing(coding)
        one.add_all("abab")
        other.add("b")
        with one.trying():
            one.add("a")
            other.add("a")
        self.assertEqual((one.text(), other.text()), ("abab", "ba"))

    def test_back(self):
        for text in texts("ab", 5)[1:] + ["ababababab", "aabaabaabb"]:
            for many in range(1, len(text) + 1):
                growing = grown(text)
                self.assertIsNone(growing.back(many))
                self.holds(growing, text[:len(text) - many])
                growing.add_all("ab")
                self.holds(growing, text[:len(text) - many] + "ab")
        growing = grown("abab")
        growing.back()
        growing.back(many=2)
        self.holds(growing, "a")

    def test_nothing_to_take_off(self):
        growing = grown("aba")
        for thing in things() + [4, 0, -1, GREAT, True, "1", [1]]:
            if picture(thing) != "1":
                raises(self, NoUndo(), growing.back, thing)
                self.holds(growing, "aba")
        raises(self, NoUndo(), Growing(plain()).back)
        growing.back(3)
        raises(self, NoUndo(), growing.back, 1)
        self.holds(growing, "")

    def test_wrong_letters(self):
        growing = grown("ab")
        for thing in things() + ["c", "A", "", "aa", "ab", ["a"], ("a",)]:
            if picture(thing) not in (picture("a"), picture("b")):
                raises(self, BadText(-1), growing.add, thing)
        self.holds(growing, "ab")

    def test_wrong_texts(self):
        growing = grown("ab")
        for text, place in wrong_texts():
            raises(self, BadText(place), growing.add_all, text)
            raises(self, BadText(place), growing.tried, text)
        self.holds(growing, "ab")


class TestTrying(GrowingCase):
    def test_text_is_what_it_was(self):
        for begun in ("", "a", "abab", "aabaabaab"):
            growing = grown(begun)
            with growing.trying():
                growing.add_all("ba")
                self.assertEqual(state(growing), state(grown(begun + "ba")))
            self.holds(growing, begun)

    def test_letters_from_ahead_of_the_block(self):
        growing = grown("ababab")
        with growing.trying():
            growing.add_all("bb")
            growing.back(5)
            self.assertEqual(state(growing), state(grown("aba")))
            growing.add_all("aaaa")
            growing.back(7)
            self.assertEqual(growing.text(), "")
            raises(self, NoUndo(), growing.back)
            growing.add("b")
        self.holds(growing, "ababab")

    def test_blocks_in_blocks(self):
        growing = grown("ab")
        with growing.trying():
            growing.add("a")
            with growing.trying():
                growing.back(2)
                with growing.trying():
                    growing.add_all("bbb")
                    self.assertEqual(growing.text(), "abbb")
                self.assertEqual(state(growing), state(grown("a")))
            self.assertEqual(state(growing), state(grown("aba")))
            with growing.trying():
                growing.back(3)
            self.assertEqual(growing.text(), "aba")
        self.holds(growing, "ab")

    def test_block_begins_where_with_stands(self):
        growing = grown("a")
        block = growing.trying()
        growing.add("b")
        with block:
            growing.back(2)
        self.holds(growing, "ab")
        self.assertIsNot(growing.trying(), growing.trying())
        growing.trying()
        growing.add("b")
        self.holds(growing, "abb")

    def test_errors_go_on(self):
        for many in (1, 4):
            growing = grown("abab")
            made = Stop("stop")
            with self.assertRaises(Stop) as caught:
                with growing.trying():
                    growing.back(many)
                    growing.add("a")
                    raise made
            self.assertIs(caught.exception, made)
            self.holds(growing, "abab")
        growing = grown("abab")
        with self.assertRaises(BadText):
            with growing.trying():
                growing.add("a")
                with growing.trying():
                    growing.back(3)
                    growing.add("c")
        self.holds(growing, "abab")

    def test_block_left_ahead_of_its_end(self):
        growing = grown("ab")

        def leave():
            with growing.trying():
                growing.add("b")
                return growing.text()
        self.assertEqual(leave(), "abb")
        for _ in range(3):
            with growing.trying():
                growing.back()
                continue
        self.holds(growing, "ab")

    def test_trial(self):
        growing = grown("abab")
        told = []

        def deed(same):
            told.append(same)
            same.back(3)
            return same.add_all("ab")
        self.assertEqual(growing.trial(deed), grown("a").add_all("ab"))
        self.assertIs(told[0], growing)
        self.holds(growing, "abab")
        self.assertEqual(growing.trial(deed=lambda same: (same.add("b"), same.trial(deed), same.text())),
                         (least(plain(), "ababb"), grown("ab").add_all("ab"), "ababb"))
        self.assertIsNone(growing.trial(lambda same: None))
        marked = [1]
        self.assertIs(growing.trial(lambda same: marked), marked)
        self.holds(growing, "abab")

    def test_trial_with_an_error(self):
        growing = grown("abab")
        made = Stop("stop")

        def deed(same):
            same.back(4)
            raise made
        with self.assertRaises(Stop) as caught:
            growing.trial(deed)
        self.assertIs(caught.exception, made)
        self.holds(growing, "abab")
        raises(self, NoUndo(), growing.trial, lambda same: (same.back(2), same.back(9)))
        raises(self, BadText(-1), growing.trial, lambda same: (same.back(2), same.add("ab")))
        self.holds(growing, "abab")

    def test_tried(self):
        for coding, text in pairs_to_try():
            growing = grown(text[:3], coding)
            expected = [least(coding, text[:at + 1]) for at in range(len(text[:3]), len(text))]
            self.assertEqual(growing.tried(text=text[3:]), expected)
            self.assertEqual(state(growing), state(grown(text[:3], coding)))


def in_common(one, other):
    many = 0
    while many < min(len(one), len(other)) and one[many] == other[many]:
        many += 1
    return many


class TestKept(unittest.TestCase):
    def test_against_all_shortest_files(self):
        found = set()
        tied = coded("ab", {"a": 2, "b": 2, "end": 3, (2, 1): 4, (2, 2): 4, (3, 1): 5, (4, 2): 6})
        for coding in formats()[:5] + [tied]:
            many = {1: 12, 2: 7}[len(coding.letters)]
            told = texts(coding.letters, many)[:140] + [(coding.letters * 9)[:9], coding.letters[0] * 9]
            best = {}
            for text in told:
                ways = ways_of(coding, text)
                bits = min([len(bits_of(coding.words, way)) for way in ways])
                best[text] = [way for way in ways if len(bits_of(coding.words, way)) == bits]
            for text in told:
                for cut in range(len(text) + 1):
                    if text[:cut] in best:
                        expected = max([in_common(one, other) for one in best[text[:cut]] for other in best[text]])
                        self.assertEqual(kept(coding, text[:cut], text[cut:]), expected, (text[:cut], text[cut:]))
                        found.add(expected)
        self.assertGreater(len(found), 5)

    def test_some(self):
        self.assertEqual(kept(plain(), "", ""), 0)
        self.assertEqual(kept(plain(), "", "abab"), 0)
        # "ababa" is packed as "a", "b" and a copy.
        self.assertEqual(kept(plain(), "ab", "aba"), 2)
        self.assertEqual(kept(plain(), "aba", "ba"), 2)
        self.assertEqual(kept(more="", text="aba", coding=plain()), 3)
        # Of the two shortest files of 6 letters, one goes on from that of 5.
        self.assertEqual(kept(plain(), "ababa", "b"), 3)

    def test_the_most_of_equals(self):
        coding = coded("a", {"a": 2, "end": 2, (2, 1): 4, (4, 1): 8})
        self.assertEqual([kept(coding, "a" * many, "aaa") for many in range(6)], [0, 1, 2, 3, 4, 5])

        coding = coded("a", {"a": 5, "end": 5, (4, 3): 2, (3, 1): 6})
        self.assertEqual(kept(coding, "a" * 7, "aaa"), 4)
        coding = coded("ab", {"a": 2, "b": 3, "end": 4, (4, 3): 5, (2, 3): 3, (2, 1): 10})
        self.assertEqual(kept(coding, "bbabbabb", "b"), 6)

    def test_long_texts(self):
        self.assertEqual(kept(coded("a", {"a": 1, "end": 1}), "a" * 400, "a" * 400), 400)
        for coding in formats():
            text = (coding.letters * 400)[:400]
            self.assertLessEqual(kept(coding, text, text), 400)

    def test_errors(self):
        check_wrong_texts(self, kept, "ab")
        for text, place in wrong_texts():
            raises(self, BadText(place), kept, plain(), "ab", text)
            raises(self, BadText(1), kept, plain(), "bc", text)
