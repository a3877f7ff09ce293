"""Points 13 and 14: rules, and what they make of texts."""

import unittest
from fractions import Fraction

from leastfile.errors import BadNumber, BadRule, BadText
from leastfile.files import read, spread
from leastfile.formats import coded
from leastfile.rules import Rule, loss, packed, taken
from leastfile.shortest import least
from tests.helping import (GREAT, bits_of, formats, pairs_to_try, picture, plain, raises, rules, steps_between, texts,
                           things, ways_of, wrong_texts)

KINDS = ("longest", "cheapest", "lazy")
EQUALS = coded("ab", {"a": 3, "b": 4, "end": 4, (2, 1): 6, (2, 2): 6, (3, 1): 5, (3, 2): 4, (4, 1): 5, (4, 3): 5})


def reach(command):
    return command[0] if isinstance(command, tuple) else 1


def copies_at(steps, at):
    return [command for place, command, _ in steps if place == at and isinstance(command, tuple)]


def rows_between(steps, at, last):
    """All rows of steps from a place to another one."""
    if at == last:
        return [[]]
    found = []
    for place, command, behind in steps:
        if place == at and behind <= last:
            found += [[command] + row for row in rows_between(steps, behind, last)]
    return found


def choice(coding, rule, text, steps, at):
    """What the document says that the rule takes, told once more."""
    price = {command: len(word) for command, word in coding.words.items()}
    order = {command: number for number, command in enumerate(coding.commands())}
    here = copies_at(steps, at)
    if rule.kind == "cheapest":
        commands = here + [text[at]]
        return sorted(commands, key=lambda c: (Fraction(price[c], reach(c)), -reach(c), order[c]))[0]
    if rule.kind == "ahead":
        rows = rows_between(steps, at, min(at + rule.ahead, len(text)))
        sums = [sum([price[command] for command in row]) for row in rows]
        firsts = [row[0] for row, total in zip(rows, sums) if total == min(sums)]
        return sorted(firsts, key=lambda c: (-reach(c), price[c], order[c]))[0]
    if not here:
        return text[at]
    later = copies_at(steps, at + 1)
    if rule.kind == "lazy" and later and max(map(reach, later)) > max(map(reach, here)):
        return text[at]
    return sorted(here, key=lambda c: (-reach(c), price[c], c[1]))[0]


class TestRule(unittest.TestCase):
    def test_fields(self):
        self.assertEqual((Rule("lazy").kind, Rule("lazy").ahead), ("lazy", 0))
        self.assertEqual((Rule(ahead=3, kind="ahead").kind, Rule("ahead", 3).ahead), ("ahead", 3))
        self.assertEqual(Rule("longest", 0).ahead, 0)

    def test_equal(self):
        found = rules()
        for number, rule in enumerate(found):
            self.assertEqual([rule == other for other in rules()], [other == number for other in range(11)])
        self.assertFalse(Rule("lazy") != Rule("lazy", 0))

    def test_sight(self):
        for coding in formats():
            found = [Rule(kind).sight(coding) for kind in KINDS]
            self.assertEqual(found, [coding.longest, coding.longest, coding.longest + 1])
            self.assertEqual([Rule("ahead", k).sight(coding=coding) for k in range(1, 9)], list(range(1, 9)))
        self.assertEqual(Rule("lazy").sight(coded("a", {"a": 1, "end": 1})), 2)

    def test_wrong_kinds(self):
        for thing in things():
            if picture(thing) != picture("longest"):
                raises(self, BadRule("kind"), Rule, thing)
                raises(self, BadRule("kind"), Rule, thing, None)
        for kind in ("Longest", "longest ", "long", "", "ahead 3", ["lazy"], ("lazy",), "aheadlazy"):
            raises(self, BadRule("kind"), Rule, kind, 3)

    def test_wrong_ahead(self):
        for thing in things():
            if picture(thing) not in ("1", "7"):
                raises(self, BadRule("ahead"), Rule, "ahead", thing)
            if picture(thing) != "0":
                for kind in KINDS:
                    raises(self, BadRule("ahead"), Rule, kind, thing)
        raises(self, BadRule("ahead"), Rule, "ahead")
        for ahead in (0, 9, -1, True, GREAT, "3", [3]):
            raises(self, BadRule("ahead"), Rule, "ahead", ahead=ahead)
        for ahead in (1, 8, False):
            raises(self, BadRule("ahead"), Rule, "lazy", ahead)


class TestTaken(unittest.TestCase):
    def test_against_the_document(self):
        for coding, text in pairs_to_try() + [(EQUALS, text) for text in texts("ab", 7)]:
            steps = steps_between(coding, text)
            for rule in rules():
                expected = [choice(coding, rule, text, steps, at) for at in range(len(text))]
                found = [taken(coding, rule, text, at) for at in range(len(text) + 1)]
                self.assertEqual(found, expected + ["end"], (rule.kind, rule.ahead, text))

    def test_longest_ties(self):
        coding = coded("a", {"a": 2, "end": 4, (2, 1): 4, (3, 1): 5, (3, 2): 4, (3, 3): 4, (3, 4): 12})
        self.assertEqual([taken(coding, Rule("longest"), "aaaaaaa", at) for at in range(8)],
                         ["a", (3, 1), (3, 2), (3, 2), (3, 2), (2, 1), "a", "end"])

    def test_cheapest_ties(self):
        coding = coded("a", {"a": 2, "end": 12, (2, 1): 4, (2, 2): 4})
        self.assertEqual([taken(coding, Rule("cheapest"), "aaaa", at) for at in range(4)], ["a", (2, 1), (2, 1), "a"])
        coding = coded("a", {"a": 3, "end": 12, (2, 1): 3, (4, 3): 6, (4, 1): 6})
        self.assertEqual(taken(coding, Rule("cheapest"), "a" * 9, 4), (4, 1))
        coding = coded("a", {"a": 1, "end": 12, (2, 1): 3})
        self.assertEqual(taken(coding, Rule("cheapest"), "a" * 9, 4), "a")

    def test_cheapest_is_exact(self):
        coding = coded("a", {"a": 2, "end": 12, (4, 1): 7, (7, 1): 12})
        self.assertEqual(taken(coding, Rule("cheapest"), "a" * 9, 1), (7, 1))
        coding = coded("a", {"a": 5, "end": 12, (7, 1): 11, (5, 1): 8, (8, 1): 12})
        self.assertEqual(taken(coding, Rule("cheapest"), "a" * 9, 1), (8, 1))
        self.assertEqual(taken(coding, Rule("cheapest"), "a" * 8, 1), (7, 1))
        coding = coded("a", {"a": 5, "end": 12, (3, 1): 5, (4, 1): 7, (5, 1): 8, (7, 1): 12})
        self.assertEqual([taken(coding, Rule("cheapest"), "a" * 9, at) for at in (1, 4, 5, 6)],
                         [(5, 1), (5, 1), (3, 1), (3, 1)])

    def test_lazy(self):
        coding = coded("ab", {"a": 2, "b": 2, "end": 3, (2, 2): 3, (3, 5): 3})
        text = "bbabab" + "ba"
        self.assertEqual([taken(coding, Rule("longest"), text, at) for at in (4, 5)], [(2, 2), (3, 5)])
        self.assertEqual([taken(coding, Rule("lazy"), text, at) for at in (4, 5)], ["a", (3, 5)])
        # The longer copy has no room, or puts other letters.
        for text in ("bbabab", "bbababb", "bbababbb"):
            self.assertEqual(taken(coding, Rule("lazy"), text, 4), (2, 2))
        # A copy that is just as long is not waited for.
        coding = coded("ab", {"a": 2, "b": 2, "end": 3, (2, 2): 3, (2, 5): 3})
        self.assertEqual([taken(coding, Rule("lazy"), "bbababba", at) for at in (4, 5)], [(2, 2), (2, 5)])

    def test_lazy_waits_for_longer_and_longer_copies(self):
        coding = coded("a", {"a": 2, "end": 2, (2, 1): 3, (3, 2): 3, (4, 3): 4})
        self.assertEqual([taken(coding, Rule("lazy"), "a" * 9, at) for at in range(10)],
                         ["a", "a", "a", (4, 3), (4, 3), (4, 3), (3, 2), (2, 1), "a", "end"])
        self.assertEqual([taken(coding, Rule("lazy"), "a" * 4, at) for at in range(5)],
                         ["a", (2, 1), (2, 1), "a", "end"])

    def test_ahead_of_1_takes_letters(self):
        for coding, text in pairs_to_try():
            self.assertEqual([taken(coding, Rule("ahead", 1), text, at) for at in range(len(text))], list(text))

    def test_ahead_ties(self):
        coding = coded("a", {"a": 2, "end": 12, (2, 1): 4, (3, 1): 6, (3, 2): 6})
        self.assertEqual(taken(coding, Rule("ahead", 8), "a" * 12, 3), (3, 1))
        self.assertEqual(taken(coding, Rule("ahead", 2), "a" * 12, 3), (2, 1))
        self.assertEqual(taken(coding, Rule("ahead", 4), "a" * 12, 3), (3, 1))
        self.assertEqual(taken(coding, Rule("ahead", 8), "a" * 12, 10), (2, 1))

    def test_ahead_sees_just_so_far(self):
        coding = coded("a", {"a": 3, "end": 3, (2, 1): 4, (8, 1): 2})
        self.assertEqual([taken(coding, Rule("ahead", k), "a" * 12, 1) for k in (1, 2, 7, 8)],
                         ["a", (2, 1), (2, 1), (8, 1)])
        # With fewer letters to come than ahead, the row ends where the text does.
        self.assertEqual([taken(coding, Rule("ahead", 8), "a" * 12, at) for at in (4, 5, 9, 10, 11, 12)],
                         [(8, 1), (2, 1), (2, 1), (2, 1), "a", "end"])

    def test_copies_from_afar(self):
        coding = coded("ab", {"a": 3, "b": 3, "end": 3, (2, 8): 2})
        for rule in rules():
            copy = "a" if rule == Rule("ahead", 1) else (2, 8)
            self.assertEqual(taken(coding, rule, "abbbbbbbabb", 8), copy)
            self.assertEqual(taken(coding, rule, "abbbbbbbbab", 9), "a")
            self.assertEqual(taken(coding, rule, "bbbabbbbbbbabb", 11), copy)

    def test_sight_is_enough(self):
        for coding in formats() + [EQUALS]:
            if len(coding.letters) > 2:
                continue
            for rule in rules()[:7]:
                sight = rule.sight(coding)
                begun = coding.letters[-1] + coding.letters[0] * 2 + coding.letters[-1] * sight
                for at in range(len(begun) - sight + 1):
                    found = {str(taken(coding, rule, begun[:at + sight] + more, at))
                             for more in texts(coding.letters, 3)}
                    self.assertEqual(len(found), 1)

    def test_arguments_by_name(self):
        self.assertEqual(taken(at=0, text="ab", rule=Rule("lazy"), coding=plain()), "a")
        self.assertEqual(packed(text="ab", rule=Rule("lazy"), coding=plain()), "0001111")
        self.assertEqual(loss(text="ab", rule=Rule("lazy"), coding=plain()), 0)

    def test_errors(self):
        for rule in rules():
            for text, place in (("abc", 2), (None, -1), (["a"], -1)):
                raises(self, BadText(place), taken, plain(), rule, text, None)
            for thing in things():
                if picture(thing) not in ("0", "1"):
                    raises(self, BadNumber("at"), taken, plain(), rule, "ab", thing)
            for at in (-1, 3, True):
                raises(self, BadNumber("at"), taken, plain(), rule, "ab", at)


class TestPacked(unittest.TestCase):
    def test_example(self):
        self.assertEqual(packed(plain(), Rule("longest"), "ababab"), "00011001111")
        self.assertEqual(loss(plain(), Rule("longest"), "ababab"), 0)

    def test_files_of_the_commands_taken(self):
        for coding, text in pairs_to_try() + [(EQUALS, text) for text in texts("ab", 6)]:
            for rule in rules():
                way = []
                while len(spread(coding, way)) < len(text):
                    way.append(taken(coding, rule, text, len(spread(coding, way))))
                self.assertEqual(packed(coding, rule, text), bits_of(coding.words, way))
                best = min([len(bits_of(coding.words, each)) for each in ways_of(coding, text)])
                self.assertEqual(loss(coding, rule, text), len(bits_of(coding.words, way)) - best)

    def test_empty_text(self):
        for coding in formats():
            for rule in rules():
                self.assertEqual(packed(coding, rule, ""), coding.words["end"])
                self.assertEqual(loss(coding, rule, ""), 0)
                self.assertEqual(taken(coding, rule, "", 0), "end")

    def test_loss_of_some(self):
        coding = coded("a", {"a": 2, "end": 3, (2, 1): 2, (3, 1): 7})
        self.assertEqual([loss(coding, Rule("longest"), "a" * size) for size in range(6)], [0, 0, 0, 0, 3, 5])
        self.assertEqual(loss(coding, Rule("cheapest"), "a" * 5), 0)

    def test_400_letters(self):
        for coding in formats():
            for text in ((coding.letters * 400)[:400], coding.letters[0] * 400):
                for rule in rules():
                    bits = packed(coding, rule, text)
                    self.assertEqual(spread(coding, read(coding, bits)), text)
                    self.assertEqual(loss(coding, rule, text), len(bits) - least(coding, text))
                self.assertEqual(packed(coding, Rule("ahead", 1), text),
                                 bits_of(coding.words, list(text)))

    def test_errors(self):
        for rule in rules():
            for text, place in wrong_texts():
                raises(self, BadText(place), packed, plain(), rule, text)
                raises(self, BadText(place), loss, plain(), rule, text)
