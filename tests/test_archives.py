"""Point 27: archives of texts."""

import unittest
from itertools import permutations

from leastfile.archives import archive, best_order, least_archive, least_behind, texts_of
from leastfile.errors import BadBits, BadText, BadTexts, NoBits, TooFew
from leastfile.formats import coded
from leastfile.shortest import least, shortest
from tests.helping import bits_of, formats, picture, plain, put, raises, texts, things, wrong_texts

FORMATS = [plain(), formats()[3], formats()[4], coded("a", {"a": 3, "end": 2, (2, 2): 2, (3, 5): 4, (4, 1): 6}),
           coded("ab", {"a": 1, "b": 2, "end": 2})]


def ways_behind(coding, before, text):
    """All ways that put a text behind other letters, found by trying each command at each place."""
    found = []
    begun = [([], before)]
    while begun:
        way, so_far = begun.pop()
        if so_far == before + text:
            found.append(way)
            continue
        for command in coding.words:
            if command != "end":
                longer = put(so_far, command)
                if longer is not None and (before + text).startswith(longer):
                    begun.append((way + [command], longer))
    return found


def archives_of(coding, told):
    """All archives of texts."""
    found = [("", "")]
    for text in told:
        found = [(bits + bits_of(coding.words, way), before + text)
                 for bits, before in found for way in ways_behind(coding, before, text)]
    return [bits for bits, _ in found]


def lists_of_texts(coding):
    first, last = coding.letters[0], coding.letters[-1]
    return [[], [""], ["", ""], [first], [first, first], [first + last, first + last + first], [last * 3, last * 2],
            [first, "", first], [first * 2, last, first * 2], [first + last, "", first + last], [first * 5],
            [last, first, last + first, last + first], [first + first, first + first + first]]


def archives_through(coding, most):
    """A dict from archives, with which a row of at most so many bits can go on until one is whole, to their texts."""
    words = coding.words
    found = {}
    begun = [("", "", [""])]
    while begun:
        bits, letters, told = begun.pop()
        if told[-1] == "":
            found[bits] = told[:-1]
        found[bits + words["end"]] = told
        for command in words:
            if len(bits) <= most:
                if command == "end":
                    begun.append((bits + words["end"], letters, told + [""]))
                else:
                    longer = put(letters, command)
                    if longer is not None:
                        text = told[-1] + longer[len(letters):]
                        begun.append((bits + words[command], longer, told[:-1] + [text]))
    return found


class TestLeastBehind(unittest.TestCase):
    def test_against_all_ways(self):
        for coding in FORMATS:
            letters = coding.letters
            for before in texts(letters, 4):
                for text in texts(letters, 3) + [letters[-1] * 5]:
                    bits = [len(bits_of(coding.words, way)) for way in ways_behind(coding, before, text)]
                    self.assertEqual(least_behind(coding, before, text), min(bits))

    def test_nothing_ahead(self):
        for coding in formats():
            for text in ("", coding.letters, coding.letters[0] * 20):
                self.assertEqual(least_behind(coding, "", text), least(coding, text))

    def test_just_so_far_ahead(self):
        coding = coded("ab", {"a": 3, "b": 3, "end": 2, (2, 8): 2})
        self.assertEqual(least_behind(coding, "abbbbbbb", "ab"), 4)
        self.assertEqual(least_behind(coding, "abbbbbb", "ab"), 8)
        self.assertEqual(least_behind(coding, "abbbbbbbb", "ab"), 8)
        self.assertEqual(least_behind(coding, "b" * 392 + "abbbbbbb", "ab"), 4)

    def test_copies_end_with_the_text(self):
        coding = coded("a", {"a": 5, "end": 1, (4, 1): 2})
        self.assertEqual([least_behind(coding, "a", "a" * many) for many in range(6)], [1, 6, 11, 16, 3, 8])

    def test_errors(self):
        for text, place in wrong_texts():
            raises(self, BadText(place), least_behind, plain(), text, "ab")
            raises(self, BadText(place), least_behind, plain(), "ab", text)
            raises(self, BadText(2), least_behind, plain(), "abc", text)
        self.assertEqual(least_behind(text="ab", before="ab", coding=plain()), 7)


class TestArchive(unittest.TestCase):
    def test_example(self):
        self.assertEqual(archive(plain(), ["ab", "aba"]), "000111110111")
        self.assertEqual(least_archive(plain(), ["ab", "aba"]), 12)
        self.assertEqual(texts_of(plain(), "000111110111"), ["ab", "aba"])

    def test_against_all_archives(self):
        for coding in FORMATS:
            for told in lists_of_texts(coding):
                found = archives_of(coding, told)
                best = min(found, key=lambda bits: (len(bits), bits))
                before = picture(told)
                self.assertEqual(least_archive(coding, told), len(best))
                self.assertEqual(archive(coding, told), best)
                self.assertEqual(texts_of(coding, best), told)
                self.assertEqual(picture(told), before)

    def test_no_texts(self):
        for coding in formats():
            self.assertEqual((archive(coding, []), least_archive(coding, []), texts_of(coding, "")), ("", 0, []))
            self.assertEqual(archive(coding, [""]), coding.words["end"])
            self.assertEqual(archive(coding, ["", ""]), coding.words["end"] * 2)

    def test_one_text_is_a_file(self):
        for coding in formats():
            for text in ("", coding.letters, coding.letters[0] * 20, (coding.letters * 9)[:20]):
                self.assertEqual(archive(coding, [text]), shortest(coding, text))

    def test_long_archives(self):
        for coding in formats():
            told = [(coding.letters * 400)[:400], "", coding.letters[0] * 400, coding.letters[-1]] * 3
            bits = archive(coding, told)
            self.assertEqual(len(bits), least_archive(coding, told))
            self.assertEqual(texts_of(coding, bits), told)
            sizes = [least_behind(coding, "".join(told[:at]), text) for at, text in enumerate(told)]
            self.assertEqual(len(bits), sum(sizes))

    def test_arguments_by_name(self):
        self.assertEqual(archive(texts=["ab"], coding=plain()), "0001111")
        self.assertEqual(least_archive(texts=["ab"], coding=plain()), 7)
        self.assertEqual(texts_of(bits="0001111", coding=plain()), ["ab"])
        self.assertEqual(best_order(texts=["ab"], coding=plain()), (7, (0,)))

    def test_errors(self):
        for function in (archive, least_archive):
            for thing in things():
                if not isinstance(thing, list) or any(not isinstance(item, str) for item in thing):
                    raises(self, BadTexts(), function, plain(), thing)
            raises(self, BadTexts(), function, plain(), ["abc", 3])
            raises(self, BadTexts(), function, plain(), ("ab", "a"))
            for text, place in wrong_texts():
                if isinstance(text, str):
                    raises(self, BadText(place), function, plain(), ["ab", text, "xyz", "abc"])
                    raises(self, BadText(1), function, plain(), ["", "ac", text])


class TestTextsOf(unittest.TestCase):
    def test_all_short_bits(self):
        for coding, most in [(FORMATS[0], 9), (FORMATS[3], 9), (FORMATS[4], 7)]:
            found = archives_through(coding, most)
            for size in range(most + 1):
                for number in range(1 << size):
                    bits = f"{number:0{size}b}" if size else ""
                    self.check_bits(coding, found, bits)

    def check_bits(self, coding, found, bits):
        begun = [size for size in range(len(bits) + 1) if any(each.startswith(bits[:size]) for each in found)]
        if len(begun) <= len(bits):
            raises(self, BadBits(len(begun) - 1), texts_of, coding, bits)
        elif bits in found:
            self.assertEqual(texts_of(coding, bits), found[bits])
        else:
            due = min([len(each) for each in found if each.startswith(bits)]) - len(bits)
            raises(self, TooFew(due), texts_of, coding, bits)

    def test_copies_over_ends(self):
        coding = coded("ab", {"a": 3, "b": 3, "end": 3, (2, 2): 3, (3, 4): 3})
        word = coding.words
        bits = "".join([word[each] for each in ["a", "end", "b", (2, 2), "end", "end", (3, 4), "end"]])
        self.assertEqual(texts_of(coding, bits), ["a", "bab", "", "aba"])
        # Of the letters ahead, those of all texts count.
        self.assertEqual(texts_of(coding, bits[:9] + word[(2, 2)] + word["end"]), ["a", "bab"])
        # The words of both copies begin with 01, and one letter ahead is too few for either.
        raises(self, BadBits(7), texts_of, coding, word["a"] + word["end"] + word[(2, 2)])
        raises(self, BadBits(14), texts_of, coding, word["a"] + word["b"] + word["end"] + word["a"] + word[(3, 4)])
        raises(self, TooFew(3), texts_of, coding, bits[:-3])
        raises(self, TooFew(3), texts_of, coding, bits[:3])
        raises(self, TooFew(1), texts_of, coding, bits[:-1])
        raises(self, TooFew(4), texts_of, coding, bits[:11])

    def test_no_bits(self):
        for thing in things() + ["2", "0 1", " 01", "01\n", ["0"], ["0", "1"]]:
            if thing not in ("", "0", "01"):
                raises(self, NoBits(), texts_of, plain(), thing)

    def test_results_are_new(self):
        found = texts_of(plain(), "111111")
        found.append("a")
        self.assertEqual(texts_of(plain(), "111111"), ["", ""])


class TestBestOrder(unittest.TestCase):
    def test_against_all_orders(self):
        for coding in FORMATS:
            first, last = coding.letters[0], coding.letters[-1]
            for told in [[""], ["", ""], [first], [first + last, first], [first, first * 2, first * 4],
                         [first * 4, last],
                         [first + last, last, first + last + first, ""], [first * 3, last * 4, first * 2, last * 3],
                         [last, first, last, first, first + last], [last * 9, first * 9, last + first] * 2,
                         [first, last, first + last, last + first, first * 2, last * 2]]:
                before = picture(told)
                found = {order: least_archive(coding, [told[number] for number in order])
                         for order in permutations(range(len(told)))}
                best = min(found, key=lambda order: (found[order], order))
                self.assertEqual(best_order(coding, told), (found[best], best))
                self.assertEqual(picture(told), before)

    def test_long_texts(self):
        told = ["ab" * 200, "b" * 400, "aab" * 133, "a" * 400, "ba", "abb" * 133]
        bits, order = best_order(plain(), told)
        self.assertEqual(sorted(order), [0, 1, 2, 3, 4, 5])
        self.assertEqual(least_archive(plain(), [told[number] for number in order]), bits)
        self.assertLessEqual(bits, min([least_archive(plain(), told), least_archive(plain(), told[::-1])]))

    def test_kinds_of_values(self):
        self.assertEqual(picture(best_order(plain(), ["ab", "a"])), picture((12, (0, 1))))

    def test_errors(self):
        for thing in things() + [["a"] * 7, ["x"] * 7, [""] * 7, ["a", "b", None], ("a", "b")]:
            if (not isinstance(thing, list) or not 1 <= len(thing) <= 6
                    or any(not isinstance(item, str) for item in thing)):
                raises(self, BadTexts(), best_order, plain(), thing)
        raises(self, BadText(1), best_order, plain(), ["ab", "ac", "c"])
        raises(self, BadText(0), best_order, plain(), ["ab", "", "", "", "", "c"])
        raises(self, BadTexts(), best_order, plain(), ["c", "ab", 7])
