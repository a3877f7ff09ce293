"""Point 28: texts of formats and of ways."""

import unittest

from leastfile.errors import BadLine
from leastfile.formats import Format, coded
from leastfile.texts import format_text, read_format, read_way, way_text
from tests.helping import formats, picture, plain, raises, things

PLAIN = "letters ab; a=00; b=01; 2-1=110; 3-2=10; end=111"
# A format with as many commands as there can be.
LARGE = coded("abcd", {"a": 6, "b": 6, "c": 7, "d": 7, "end": 8,
                       **{(length, distance): 12 for length in range(2, 7) for distance in range(1, 8)}})


class TestFormatText(unittest.TestCase):
    def test_text(self):
        self.assertEqual(format_text(plain()), PLAIN)
        self.assertEqual(format_text(coding=coded("z", {"z": 1, "end": 1})), "letters z; z=0; end=1")
        coding = Format("ac", {"end": "0", (8, 8): "110", "c": "1110", (2, 3): "11110", (2, 1): "11111", "a": "10"})
        self.assertEqual(format_text(coding), "letters ac; a=10; c=1110; 2-1=11111; 2-3=11110; 8-8=110; end=0")

    def test_there_and_back(self):
        self.assertEqual(len(LARGE.commands()), 40)
        for coding in formats() + [LARGE]:
            text = format_text(coding)
            self.assertEqual(type(text), str)
            found = read_format(text)
            self.assertEqual(found, coding)
            self.assertEqual(picture(found), picture(coding))
            self.assertEqual(format_text(found), text)
        self.assertEqual(read_format(text=PLAIN), plain())

    def test_lines_that_differ_by_little(self):
        found = {PLAIN}
        for at in range(len(PLAIN) + 1):
            for sign in ["", " ", ";", "=", "-", "0", "1", "2", "9", "a", "c", "Z", "\n", "\t", "\u0660", "\u00b2"]:
                found.add(PLAIN[:at] + sign + PLAIN[at:])
                found.add(PLAIN[:at] + sign + PLAIN[at + 1:])
            found.add(PLAIN[:at])
            found.add(PLAIN[at:])
        let = 0
        for text in sorted(found):
            if self.is_let(text):
                let += 1
                self.assertEqual(format_text(read_format(text)), text)
            else:
                raises(self, BadLine(), read_format, text)
        # Longer and shorter words, other letters, other copies.
        self.assertGreater(let, 10)

    def is_let(self, text):
        """Tell slowly whether a text that differs little from that of the plain format is one of a format."""
        parts = text.split("; ")
        names = ["a", "b", "c", "end"] + [f"{n}-{d}" for n in range(2, 9) for d in range(1, 9)]
        rows = [part.split("=") for part in parts[1:]]
        if any(len(row) != 2 or row[0] not in names for row in rows) or not parts[0].startswith("letters "):
            return False
        commands = [row[0] if len(row[0]) != 3 or row[0] == "end" else (int(row[0][0]), int(row[0][2])) for row in rows]
        letters = [command for command in commands if isinstance(command, str)]
        copies = [command for command in commands if isinstance(command, tuple)]
        words = [row[1] for row in rows]
        if letters[-1:] != ["end"] or "".join(letters[:-1]) != parts[0][8:] or sorted(set(letters)) != letters:
            return False
        if commands != letters[:-1] + sorted(set(copies)) + ["end"] or len(letters) < 2:
            return False
        if any(word == "" or len(word) > 12 or set(word) - {"0", "1"} for word in words):
            return False
        pairs = [(one, other) for at, one in enumerate(words) for to, other in enumerate(words) if at != to]
        return not any(one.startswith(other) for one, other in pairs)

    def test_other_orders(self):
        head, *rows = PLAIN.split("; ")
        for at in range(len(rows)):
            for to in range(len(rows)):
                if at != to:
                    turned = list(rows)
                    turned[at], turned[to] = turned[to], turned[at]
                    raises(self, BadLine(), read_format, "; ".join([head] + turned))
            raises(self, BadLine(), read_format, "; ".join([head] + rows[:at] + rows[at:at + 1] + rows[at:]))
        raises(self, BadLine(), read_format, "; ".join(rows))
        raises(self, BadLine(), read_format, "; ".join(rows + [head]))
        raises(self, BadLine(), read_format, "; ".join([head, head] + rows))

    def test_what_is_no_format(self):
        for text in ["", "letters", "letters ", "letters a", "letters ; end=0", "letters a; end=1", "letters a; a=0",
                     "letters a; a=0; end=0", "letters a; a=0; end=01", "letters a; a=; end=1", "letters a; a=0; end=2",
                     "letters ba; b=0; a=10; end=11", "letters ba; a=0; b=10; end=11", "letters a; a=0; b=10; end=11",
                     "letters aa; a=0; a=10; end=11", "letters ab; a=0; end=1", "letters A; A=0; end=1",
                     "letters a; a=0; 1-1=10; end=11", "letters a; a=0; 2-0=10; end=11",
                     "letters a; a=0; 9-1=10; end=11", "letters a; a=0; 2-9=10; end=11",
                     "letters a; a=0; 02-1=10; end=11", "letters a; a=0; 2-1 =10; end=11",
                     "letters a; a=0; (2, 1)=10; end=11", "letters a; a=0; 2-1=10; 2-1=10; end=11",
                     "letters a; a=0; end=1;", "letters a; a=0; end=1; ", " letters a; a=0; end=1",
                     "letters a; a=0; end=1\n", "letters a;a=0;end=1", "letters a; a=0; end=1111111111111",
                     "letters letters a; a=0; end=1", "letter a; a=0; end=1", "a; a=0; end=1",
                     "letters a; a=0; end=1=1", "letters abcde; a=000; b=001; c=010; d=011; e=100; end=101",
                     "letters a b; a=0; b=10; end=11"]:
            raises(self, BadLine(), read_format, text)
        self.assertEqual(read_format("letters a; a=0; 2-1=10; end=11").commands(), ["a", (2, 1), "end"])
        self.assertEqual(read_format("letters a; a=0; end=111111111111").words["end"], "1" * 12)

    def test_too_many_commands(self):
        text = format_text(LARGE)
        self.assertLess(len(text), 6000)
        raises(self, BadLine(), read_format, text.replace("; end=", "; 8-8=111111111111; end="))
        self.assertEqual(read_format(text.replace("; 6-7=", "; 8-8=")).commands()[-2], (8, 8))
        raises(self, BadLine(), read_format, "x" * 6000)

    def test_things(self):
        for thing in things() + [[PLAIN], (PLAIN,), {PLAIN: 1}, plain()]:
            raises(self, BadLine(), read_format, thing)


class TestWayText(unittest.TestCase):
    def test_there_and_back(self):
        for way, text in [([], ""), (["a"], "a"), (["a", "b", (3, 2)], "a b 3-2"), (["a", (2, 1)], "a 2-1"),
                          (["z", (8, 1), (2, 8), "q"], "z 8-1 2-8 q"), (["e", "n", "d"], "e n d"),
                          (["x"] * 400, " ".join("x" * 400))]:
            before = picture(way)
            self.assertEqual(way_text(way), text)
            self.assertEqual(read_way(text), way)
            self.assertEqual(picture(read_way(text)), before)
            self.assertEqual(picture(way), before)
        self.assertEqual(way_text(way=["a"]), "a")
        self.assertEqual(read_way(text="a"), ["a"])

    def test_just_to_the_first_letter(self):
        for distance in range(1, 9):
            way, text = ["a"] * distance, "a " * distance
            self.assertEqual(way_text(way + [(2, distance)]), text + f"2-{distance}")
            self.assertEqual(read_way(text + f"2-{distance}"), way + [(2, distance)])
            raises(self, BadLine(), way_text, way + [(2, distance + 1)])
            raises(self, BadLine(), read_way, text + f"2-{distance + 1}")
        # What copies put counts, too.
        self.assertEqual(read_way("b 4-1 3-5 3-8"), ["b", (4, 1), (3, 5), (3, 8)])
        raises(self, BadLine(), read_way, "b 4-1 3-6")
        raises(self, BadLine(), way_text, ["b", (4, 1), (3, 6)])
        raises(self, BadLine(), way_text, [(2, 1)])
        raises(self, BadLine(), read_way, "2-1")

    def test_results_are_new(self):
        found = read_way("a b")
        found.append("c")
        self.assertEqual(read_way("a b"), ["a", "b"])
        read_way("").append("a")
        self.assertEqual(read_way(""), [])

    def test_what_is_no_way(self):
        for thing in things():
            if picture(thing) not in (picture([]), picture(["a"]), picture(["a", "b"])):
                raises(self, BadLine(), way_text, thing)
            if picture(thing) not in (picture("a"), picture("b"), picture((2, 1))):
                raises(self, BadLine(), way_text, ["a", thing])
        for way in [["end"], ["a", "end"], ["a", "A"], ["a", ""], ["a", "ab"], ["a", (2, True)], ["a", (True, 1)],
                    ["a", [2, 1]], ["a", (1, 1)], ["a", (9, 1)], ["a", (2, 0)], ["a", (2, 1, 1)], ["a", (2,)],
                    ["a", "2-1"],
                    ["a", None], ("a", "b"), "ab", ["a", " "], ["a", "\u00e9"], ["a", ("2", 1)], {"a": 1}, ["a", 0]]:
            raises(self, BadLine(), way_text, way)

    def test_what_is_no_text_of_a_way(self):
        for thing in things() + [["a"], ("a", "b")]:
            if not (isinstance(thing, str) and thing in ("", "a", "b", "a b")):
                raises(self, BadLine(), read_way, thing)
        for text in [" ", "a ", " a", "a  b", "ab", "a b\n", "a\nb", "a\tb", "end", "a end", "a 2-1 end", "A", "a 1-1",
                     "a 9-1", "a 2-0", "a 2-9", "a 02-1", "a 2-01", "a 2 -1", "a 2--1", "a (2, 1)", "a 2-1,",
                     "a 2\u20111", "a -2-1", "a 2-", "a -1", "a -", "a 12-1", "a \u0662-1", "a \u00b2-1",
                     "\u00e9", "-", "a 2-1-1", "a 2=1"]:
            raises(self, BadLine(), read_way, text)
