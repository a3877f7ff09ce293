"""Point 29: the desk and its lines."""

import unittest

from leastfile.compared import unlike_text, without
from leastfile.desk import Desk
from leastfile.errors import (BadBits, BadLine, BadText, NoBits, NoCommand, NoLine, NoName, NoUndo, OtherLetters,
                              PackError, TooFew, TooMany)
from leastfile.formats import coded
from leastfile.losses import greatest_loss, worst_text
from leastfile.pairs import share_of
from leastfile.rules import Rule, loss, packed
from leastfile.shares import share
from leastfile.shortest import least, shortest
from leastfile.texts import format_text
from tests.helping import formats, picture, plain, raises, rules, texts, things

PLAIN = "letters ab; a=00; b=01; 2-1=110; 3-2=10; end=111"
BARE = coded("ab", {"a": 1, "b": 2, "end": 2})
WIDE = coded("ab", {"a": 2, "b": 3, "end": 4, (8, 8): 3, (2, 1): 5})


def desk_of(**codings):
    desk = Desk()
    for name in codings:
        desk.tell(f"format {name} {format_text(codings[name])}")
    return desk


def state(desk):
    """What a desk tells of itself: its names, their formats and its depth."""
    names = desk.tell("names").split(" ")
    if names == ["none"]:
        names = []
    return [(name, picture(desk.coding(name))) for name in names] + [desk.depth()]


def word_of(rule):
    return rule.kind if rule.kind != "ahead" else f"ahead {rule.ahead}"


class TestAnswers(unittest.TestCase):
    def test_of_texts(self):
        for coding in formats():
            desk = desk_of(x=coding)
            letters = coding.letters
            for text in texts(letters, 3) + [letters[0] * 11, (letters * 6)[:12]]:
                word = text or "-"
                self.assertEqual(desk.tell(f"least x {word}"), str(least(coding, text)))
                self.assertEqual(desk.tell(f"file x {word}"), shortest(coding, text))
                self.assertEqual(desk.tell(f"read x {shortest(coding, text)}"), word)
                for rule in rules():
                    bits = packed(coding, rule, text)
                    self.assertEqual(desk.tell(f"pack x {word_of(rule)} {word}"), bits)
                    self.assertEqual(desk.tell(f"loss x {word_of(rule)} {word}"), str(loss(coding, rule, text)))
                    self.assertEqual(desk.tell(f"read x {bits}"), word)

    def test_of_rules(self):
        for coding in formats()[:3]:
            desk = desk_of(x=coding)
            for rule in rules():
                top, bottom = share(coding, rule)
                self.assertEqual(desk.tell(f"share x {word_of(rule)}"), f"{top}/{bottom}")
                most = greatest_loss(coding, rule)
                wanted = "never" if most is None else f"{most} {worst_text(coding, rule) or '-'}"
                self.assertEqual(desk.tell(f"worst x {word_of(rule)}"), wanted)

    def test_of_two(self):
        codings = {"one": plain(), "two": BARE, "three": without(plain(), (3, 2)), "same": plain()}
        desk = desk_of(**codings)
        for name in codings:
            for other in codings:
                top, bottom = share_of(codings[name], codings[other])
                self.assertEqual(desk.tell(f"share {name} {other}"), f"{top}/{bottom}")
                text = unlike_text(codings[name], codings[other])
                self.assertEqual(desk.tell(f"unlike {name} {other}"), "never" if text is None else text or "-")

    def test_some_answers(self):
        desk = desk_of(x=plain(), y=BARE)
        lines = {
            "least x ababab": "11", "least x -": "3", "file x ababab": "00010010111", "file x -": "111",
            "read x 000110111": "ababa", "read x 111": "-", "pack x longest ababab": "00011001111",
            "pack x ahead 1 -": "111", "loss x lazy -": "0", "loss x ahead 3 ababab": "0", "share x lazy": "8/7",
            "share y x": "3/1", "share x x": "1/1", "worst x ahead 8": "never", "worst y longest": "0 -",
            "unlike x y": "-", "unlike x x": "never", "names": "x y",
        }
        for line in lines:
            self.assertEqual(picture(desk.tell(line)), picture(lines[line]), line)
        self.assertEqual(desk.tell("without x z 3-2"), "ok")
        self.assertEqual(desk.tell("unlike x z"), "aaaaa")
        self.assertEqual(desk.tell(line="unlike z x"), "aaaaa")

    def test_a_worst_text(self):
        one = coded("a", {"a": 6, "end": 10, (3, 2): 1, (2, 1): 2})
        two = coded("ab", {"a": 4, "b": 2, "end": 12, (3, 3): 6, (2, 4): 7})
        desk = desk_of(one=one, two=two)
        self.assertEqual(desk.tell("worst one lazy"), "10 aaaaaa")
        self.assertEqual(desk.tell("worst two ahead 3"), "1 aaabaabaa")

    def test_names(self):
        desk = Desk()
        self.assertEqual(desk.tell("names"), "none")
        for name in ("b", "ab", "zz", "a", "aheadx", "abcdefgh", "none", "names", "undo", "lon"):
            self.assertEqual(desk.tell(f"format {name} {PLAIN}"), "ok")
        self.assertEqual(desk.tell("names"), "a ab abcdefgh aheadx b lon names none undo zz")
        self.assertEqual(desk.tell("least names ab"), "7")
        self.assertEqual(desk.tell("drop none"), "ok")
        self.assertEqual(desk.tell("share undo lon"), "1/1")


class TestChanges(unittest.TestCase):
    def test_each_and_back(self):
        desk = Desk()
        states = [state(desk)]
        lines = [f"format x {PLAIN}", f"format y {format_text(BARE)}", f"format x {format_text(WIDE)}", "drop y",
                 f"format y {PLAIN}", "without y y 3-2", "without x new 8-8", "without x y 2-1", "drop x", "drop new",
                 "drop y", f"format x {PLAIN}", "without x x 2-1", "without x x 3-2"]
        for number, line in enumerate(lines):
            self.assertEqual(desk.tell(line), "ok", line)
            self.assertEqual(desk.depth(), number + 1)
            states.append(state(desk))
        self.assertEqual(states[3], [("x", picture(WIDE)), ("y", picture(BARE)), 3])
        self.assertEqual(states[8][:1], [("new", picture(without(WIDE, (8, 8))))])
        self.assertEqual(states[8][2], ("y", picture(without(WIDE, (2, 1)))))
        self.assertEqual(states[11], [11])
        for number in reversed(range(len(lines))):
            self.assertEqual(desk.tell("undo"), "ok")
            self.assertEqual(state(desk), states[number])
        raises(self, NoUndo(), desk.tell, "undo")
        self.assertEqual(state(desk), [0])

    def test_undo_between(self):
        desk = desk_of(x=plain())
        desk.tell("drop x")
        desk.tell("undo")
        self.assertEqual(desk.coding("x"), plain())
        desk.tell("without x x 3-2")
        desk.tell("undo")
        desk.tell(f"format y {PLAIN}")
        self.assertEqual(desk.depth(), 2)
        desk.tell("undo")
        desk.tell("undo")
        self.assertEqual(desk.tell("names"), "none")
        raises(self, NoUndo(), desk.tell, "undo")
        self.assertEqual(desk.depth(), 0)

    def test_asking_changes_nothing(self):
        desk = desk_of(x=plain(), y=BARE)
        before = state(desk)
        for line in ("least x ab", "file x ab", "read x 111", "pack x lazy ab", "loss x lazy ab", "share x lazy",
                     "share x y", "worst x lazy", "unlike x y", "names"):
            desk.tell(line)
            self.assertEqual(state(desk), before)

    def test_formats_stay_what_they_are(self):
        desk = desk_of(x=plain())
        held = desk.coding("x")
        held.words.clear()
        desk.tell("without x x 3-2")
        self.assertEqual(picture(held), picture(plain()))
        self.assertEqual(desk.coding("x"), without(plain(), (3, 2)))
        two = Desk()
        self.assertEqual(two.tell("names"), "none")

    def test_coding(self):
        desk = desk_of(x=plain())
        self.assertEqual(picture(desk.coding(name="x")), picture(plain()))
        for thing in things() + ["X", "x ", " x", "xx", ["x"], ("x",), {"x": 1}]:
            with self.assertRaises(NoName) as held:
                desk.coding(thing)
            self.assertIs(held.exception.name, thing)
        self.assertEqual(state(desk), [("x", picture(plain())), 1])


class TestWrongLines(unittest.TestCase):
    def check(self, desk, made, lines):
        before = state(desk)
        for line in lines:
            raises(self, made, desk.tell, line)
            self.assertEqual(state(desk), before, line)

    def test_lines_without_form(self):
        desk = desk_of(x=plain(), longer=BARE)
        lines = [thing for thing in things() if not isinstance(thing, str)]
        lines += ["", " ", "  ", "Names", "name", "names ", " names", "names x", "names\n", "\tnames", "undo ", "undo x",
                  " undo", "undo 2", "format", "format ", "format x", "format  x", "format  " + PLAIN, "Format x " + PLAIN,
                  " format x " + PLAIN, "format x1 " + PLAIN, "format X " + PLAIN, "format x\t" + PLAIN, "drop", "drop ",
                  "drop  x", "drop x ", "drop x y", "drop x1", "drop X", "drop -", "without x y", "without x y ",
                  "without x  y 3-2", "without x y 3-2 ", "without x y 3-2 z", "without x y z 3-2", "without x 3-2",
                  "least", "least x", "least x ", "least x  ab", "least x ab ", "least x a b", "least  x ab", "least X ab",
                  "least x - -", "file x", "file x ", "file x a b", "file x1 a", "read x", "read x ", "read x 1 1",
                  "read x  111", "pack x ab", "pack x longest", "pack x longest ", "pack x longest  ab",
                  "pack x longest ab b", "pack x ahead ab", "pack x ahead 3", "pack x ahead 3 ", "pack x ahead  3 ab",
                  "pack x longest 3 ab", "pack x Longest ab", "pack x x ab", "pack longest x ab", "loss x ab",
                  "loss x cheapest", "loss x ahead 9 ab", "loss x lazy 1 ab", "share", "share x", "share x ",
                  "share x lazy ab", "share x ahead", "share x ahead ", "share x ahead 3 ", "share x longest 3",
                  "share x x x", "share lazy x", "share x X", "share x -", "share x  x", "worst x", "worst x x",
                  "worst x lazy ab", "worst x ahead", "worst x ahead 3 4", "worst x ", "unlike x", "unlike x x x",
                  "unlike x lazy", "unlike lazy x", "unlike x ", "unlike x  x", "unlike", "ahead 3", "lazy", "ok"]
        for word in ("0", "9", "10", "12", "-1", "+3", "3.", "03", "\u0663", "\u00b2", "a", "", "3\n"):
            lines += [f"pack x ahead {word} ab", f"share x ahead {word}", f"worst x ahead {word}"]
        self.check(desk, NoLine(), lines)

    def test_names_that_are_none(self):
        desk = desk_of(x=plain())
        lines = []
        for name in ("longest", "cheapest", "lazy", "ahead", "abcdefghi", "a" * 20, "X", "x1", "x-", "-", "", "a_b", "\u00e9",
                     "x\n", "a.b", "\u0430"):
            lines += [f"format {name} {PLAIN}", f"drop {name}", f"without {name} y 3-2", f"without x {name} 3-2",
                      f"least {name} ab", f"file {name} ab", f"read {name} 111", f"pack {name} lazy ab",
                      f"loss {name} lazy ab", f"share {name} lazy", f"share {name} x", f"worst {name} lazy",
                      f"unlike {name} x", f"unlike x {name}"]
            if name not in ("longest", "cheapest", "lazy"):
                lines.append(f"share x {name}")
        self.check(desk, NoLine(), lines)

    def test_copies_that_are_none(self):
        desk = desk_of(x=plain())
        lines = [f"without x y {word}" for word in (
            "3", "3-", "-2", "-", "3-2-", "33-2", "3-22", "1-2", "9-2", "3-0", "3-9", "0-0", "3--2", "3+2", "3_2", "a-b",
            "a", "b", "end", "3-2\n", "\u0663-2", "3-\u00b2", "(3,", "03-2")]
        self.check(desk, NoLine(), lines)

    def test_names_that_are_not_there(self):
        desk = desk_of(x=plain(), y=BARE)
        for name in ("z", "xy", "abcdefgh", "names"):
            lines = [f"drop {name}", f"without {name} x 3-2", f"without {name} {name} 8-8",
                     f"least {name} ABC", f"file {name} -", f"read {name} 2", f"pack {name} lazy ?", f"loss {name} ahead 1 ?",
                     f"share {name} lazy", f"share {name} other", f"share x {name}", f"share {name} x",
                     f"worst {name} ahead 8", f"unlike {name} other", f"unlike x {name}", f"unlike {name} x"]
            self.check(desk, NoName(name), lines)
        empty = Desk()
        self.check(empty, NoName("x"), ["drop x", "least x ab", "share x y", "without x y 2-1"])
        desk.tell("drop x")
        self.check(desk, NoName("x"), ["least x ab", "drop x", "share y x", "without x x 2-1"])

    def test_what_the_functions_raise(self):
        desk = desk_of(x=plain(), y=formats()[1], wide=WIDE)
        self.check(desk, BadText(1), [f"{word} aXb" for word in ("least x", "file x", "pack x lazy", "loss x ahead 2")])
        self.check(desk, BadText(0), ["least x --", "file y b", "least x 7", "loss x lazy \n", "least x longest"])
        self.check(desk, NoBits(), ["read x -", "read x 012", "read x ab", "read x 111\n"])
        self.check(desk, BadBits(1), ["read x 10", "read x 101111"])
        self.check(desk, TooFew(2), ["read x 1"])
        self.check(desk, NoCommand(), ["without x z 8-8", "without y y 2-1", "without x x 2-2"])
        self.check(desk, OtherLetters(), ["share x y", "share y wide", "unlike y x", "unlike wide y"])
        self.check(desk, TooMany(3000), ["share wide lazy", "worst wide ahead 4", "share wide x", "unlike x wide"])
        self.check(desk, BadLine(), ["format z ", "format x ", "format z  ", "format z  " + PLAIN, f"format z {PLAIN} ",
                                     "format z x", "format z letters ab", "format z " + PLAIN[1:],
                                     "format z " + PLAIN.replace("; ", ";  "), "format z ?", "format lazyx " + PLAIN + "?"])

    def test_an_error_is_no_change(self):
        desk = desk_of(x=plain())
        for line in ("without x x 8-8", f"format x {PLAIN};", "drop y", "names x", None):
            with self.assertRaises(PackError):
                desk.tell(line)
        self.assertEqual(state(desk), [("x", picture(plain())), 1])
        desk.tell("undo")
        self.assertEqual(state(desk), [0])


if __name__ == "__main__":
    unittest.main()
