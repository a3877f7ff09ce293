"""Points 33 to 35: plans of rules, plans of the enemy, and the texts that come of them."""

import unittest
from fractions import Fraction

from leastfile.errors import BadNumber, BadSight, BadText, NoMove, TooMany
from leastfile.formats import coded
from leastfile.plans import best_plan, check_enemy, check_plan, enemy_plan, enemy_text, packed_by
from leastfile.shortest import least
from leastfile.sights import choices, ready, sight_share
from tests.helping import GREAT, picture, plain, raises, texts, things, wrong_texts
from tests.standing import (FIRST, JUST, ONE_MORE, commands_at, enemy_holds, few, plan_holds, rows_of_stands, shown,
                            stand_of)
from tests.test_sights import SIGHTS_THAT_ARE_NONE

TINY = Fraction(1, 10 ** 40)


def told(r):
    return r.as_integer_ratio()


def every_move(coding, sight, number):
    """Moves for all ready stands: of the choices of each the one with a number, counted round and round."""
    found = {}
    for row in rows_of_stands(coding, sight).values():
        for _, coming, options in row.values():
            if coming is not None:
                found[coming] = list(options)[number % len(options)]
    return list(found.items())


def walked(coding, sight, moves, text):
    """The way that a rule takes by its moves, told from the whole text at each step, or None without a move."""
    taken = dict(moves)
    way = []
    at = 0
    for end in range(1, len(text) + 1):
        if end - at == sight:
            stand = stand_of(coding, sight, text[:end], at)
            places = commands_at(coding, sight, text[:end], at)
            if taken.get(stand, "none") not in places:
                return None
            way.append(taken[stand])
            at = places[taken[stand]]
    return way + list(text[at:])


def bits_of(coding, way):
    return "".join([coding.words[command] for command in way + ["end"]])


class TestBestPlan(unittest.TestCase):
    def test_holds(self):
        for coding, sight in shown() + few() + JUST:
            rows = rows_of_stands(coding, sight)
            r = sight_share(coding, sight)
            plan = best_plan(coding, sight)
            self.assertEqual([type(plan), type(plan[0]), type(plan[1]), len(plan)], [tuple, list, list, 2])
            moves, heights = plan
            self.assertTrue(plan_holds(rows, r, moves, heights))
            for row in moves + heights:
                self.assertEqual([type(row), len(row)], [tuple, 2])
                self.assertEqual([type(item) for item in row[0]], [str, int, tuple])
            for _, height in heights:
                self.assertEqual(picture(height), picture(told(Fraction(*height))))
            self.assertIs(check_plan(coding, sight, r, plan), True)
            # There is no such plan for less: the enemy has one.
            answers = enemy_plan(coding, sight)
            self.assertEqual(type(answers), list)
            self.assertTrue(enemy_holds(rows, r, answers))
            for row in answers:
                self.assertEqual([type(row), len(row), type(row[1])], [tuple, 3, str])
                self.assertEqual(picture(row[2]), picture(told(Fraction(*row[2]))))
            self.assertIs(check_enemy(coding, sight, r, answers), True)

    def test_other_fractions(self):
        for coding, sight in shown()[:4] + few():
            rows = rows_of_stands(coding, sight)
            exact = Fraction(*sight_share(coding, sight))
            moves, heights = best_plan(coding, sight)
            answers = enemy_plan(coding, sight)
            for r in (exact - TINY, exact + TINY, exact * 2, exact / 2, exact + 1, Fraction(1, GREAT)):
                holds = plan_holds(rows, told(r), moves, heights)
                self.assertIs(check_plan(coding, sight, told(r), (moves, heights)), holds)
                self.assertFalse(holds and r < exact)
                holds = enemy_holds(rows, told(r), answers)
                self.assertIs(check_enemy(coding, sight, told(r), answers), holds)
                self.assertFalse(holds and r > exact)

    def test_same_results_and_new_lists(self):
        first = best_plan(plain(), 3)
        text = picture(first)
        first[0].clear()
        first[1].clear()
        self.assertEqual(picture(best_plan(plain(), 3)), text)
        answers = enemy_plan(plain(), 3)
        text = picture(answers)
        answers.clear()
        self.assertEqual(picture(enemy_plan(plain(), 3)), text)

    def test_arguments_by_name(self):
        plan = best_plan(sight=2, coding=plain())
        self.assertTrue(check_plan(thing=plan, r=(3, 1), sight=2, coding=plain()))
        answers = enemy_plan(sight=2, coding=plain())
        self.assertTrue(check_enemy(thing=answers, r=(3, 1), sight=2, coding=plain()))
        self.assertEqual(packed_by(text="b", moves=plan[0], sight=2, coding=plain()), "01111")
        self.assertEqual(len(enemy_text(length=9, moves=plan[0], sight=2, coding=plain())), 9)


class TestCheckPlan(unittest.TestCase):
    def setUp(self):
        self.coding = plain()
        self.sight = 3
        self.r = sight_share(self.coding, self.sight)
        self.moves, self.heights = best_plan(self.coding, self.sight)

    def holds(self, moves, heights):
        thing = (moves, heights)
        before = picture(thing)
        found = check_plan(self.coding, self.sight, self.r, thing)
        self.assertEqual(picture(thing), before)
        self.assertIn(found, (True, False))
        return found

    def test_further_moves(self):
        more = [(("", -1, ()), "end"), (("zzz", 7, (GREAT,)), ["a", {}]), (("ababababab", 3, ()), None),
                (FIRST, (3, True)), (("abab", 2, (-2, -4)), {"a": []})]
        self.assertIs(self.holds(self.moves + more, self.heights), True)
        self.assertIs(self.holds(more + self.moves, self.heights), True)
        for number, wrong in enumerate([7, None, "ab", (), (("", 0, ()),), [("", 0, ()), "a"], (("", 0, ()), "a", "b"),
                                        (("", 0, []), "a"), (("", True, ()), "a"), (("", 0), "a"), ((0, 0, ()), "a"),
                                        (["", 0, ()], "a"), (("A", 0, ()), "a"), (("", 0, (None,)), "a")]):
            self.assertIs(self.holds(self.moves + [wrong], self.heights), False, number)
            self.assertIs(self.holds([wrong] + self.moves, self.heights), False, number)
        for row in (self.moves[0], self.moves[-1], (self.moves[0][0], None)):
            self.assertIs(self.holds(self.moves + [row], self.heights), False)
        self.assertIs(self.holds(self.moves + more + more[:1], self.heights), False)

    def test_moves(self):
        for number, (stand, command) in enumerate(self.moves):
            rest = self.moves[:number] + self.moves[number + 1:]
            self.assertIs(self.holds(rest, self.heights), False)
            others = [other for other in choices(self.coding, self.sight, stand) if other != command]
            for other in others:
                plan = rest + [(stand, other)]
                known = plan_holds(rows_of_stands(self.coding, self.sight), self.r, plan, self.heights)
                self.assertIs(self.holds(plan, self.heights), known)
            wrong = [None, "end", "c", (8, 8), 7, [command], stand, "", True]
            wrong += [tuple([bool(item) if item == 1 else item for item in command])] if command == (2, 1) else []
            wrong += [list(command)] if isinstance(command, tuple) else [command + command]
            for thing in wrong:
                self.assertIs(self.holds(rest + [(stand, thing)], self.heights), False, thing)
        self.assertIs(self.holds(list(reversed(self.moves)), list(reversed(self.heights))), True)

    def test_a_flag_in_a_command(self):
        coding = coded("a", {"a": 6, (3, 1): 2, (2, 1): 2, "end": 2})
        moves, heights = best_plan(coding, 2)
        self.assertIn((2, 1), [command for _, command in moves])
        self.assertTrue(check_plan(coding, 2, (3, 2), (moves, heights)))
        flags = [(stand, (2, True) if command == (2, 1) else command) for stand, command in moves]
        self.assertFalse(check_plan(coding, 2, (3, 2), (flags, heights)))

    def test_heights(self):
        rows = rows_of_stands(self.coding, self.sight)
        changed = 0
        for number, (stand, height) in enumerate(self.heights):
            rest = self.heights[:number] + self.heights[number + 1:]
            known = plan_holds(rows, self.r, self.moves, rest)
            self.assertIs(self.holds(self.moves, rest), known)
            self.assertIs(self.holds(self.moves, rest + [(stand, height), (stand, height)]), False)
            for more in (TINY, -TINY, Fraction(1), Fraction(-1)):
                moved = rest + [(stand, told(Fraction(*height) + more))]
                known = plan_holds(rows, self.r, self.moves, moved)
                self.assertIs(self.holds(self.moves, moved), known)
                changed += not known
            top, bottom = height
            wrong = [None, top, [top, bottom], (2 * top, 2 * bottom), (-top, -bottom), (top, 0), (top,), (top, bottom, 1),
                     (str(top), bottom), (top, None), ((top, bottom), 1), True]
            wrong += [(top, True)] if bottom == 1 else []
            wrong += [(bool(top), bottom)] if top in (0, 1) else []
            for thing in wrong:
                self.assertIs(self.holds(self.moves, rest + [(stand, thing)]), False, thing)
            for thing in (list(stand), stand + (0,), stand[:2], (stand[0], stand[1], list(stand[2])), "", None,
                          (stand[0], str(stand[1]), stand[2])):
                self.assertIs(self.holds(self.moves, rest + [(thing, height)]), False, thing)
            if stand[1] in (0, 1):
                flag = (stand[0], bool(stand[1]), stand[2])
                self.assertIs(self.holds(self.moves, rest + [(flag, height)]), False)
        self.assertGreater(changed, len(self.heights))

    def test_stands_to_which_nothing_leads(self):
        for stand in (("zzzz", 0, (0, 0)), ("abab", 7, (0, 0)), ("abab", 0, (GREAT, 0)), ("ab", 0, (0, 0)), ("", 1, ()),
                      self.moves[0][0], ("ab" * 30, 0, (0, 0)), ("abab", 0, ()), ("ab", -1, ()), ("abab", 3, (2, 0))):
            self.assertIs(self.holds(self.moves, self.heights + [(stand, (0, 1))]), False, stand)
            self.assertIs(self.holds(self.moves, self.heights + [(stand, (10 ** 9, 1))]), False, stand)

    def test_further_heights(self):
        rows = rows_of_stands(self.coding, self.sight)
        further = [stand for stand in rows if stand not in dict(self.heights)]
        self.assertGreater(len(further), 3)
        for stand in further:
            for height in ((-GREAT, 1), (GREAT, 1)):
                heights = self.heights + [(stand, height)]
                self.assertIs(self.holds(self.moves, heights), plan_holds(rows, self.r, self.moves, heights))
        moves = dict(every_move(self.coding, self.sight, 0))
        moves.update(dict(self.moves))
        found = [self.holds(list(moves.items()), self.heights + [(stand, (-GREAT, 1))]) for stand in further]
        self.assertIn(True, found)

    def test_the_first_stand(self):
        shifted = [(stand, told(Fraction(*height) + 1)) for stand, height in self.heights]
        self.assertIs(self.holds(self.moves, shifted), False)
        self.assertIs(self.holds(self.moves, []), False)
        self.assertIs(self.holds([], [(FIRST, (0, 1))]), False)
        self.assertIs(self.holds([], []), False)

    def test_other_things(self):
        moves, heights = self.moves, self.heights
        for thing in things() + [[moves, heights], (moves,), (moves, heights, []), (tuple(moves), heights),
                                 (moves, tuple(heights)), (dict(moves), heights), (moves, dict(heights)), (heights, moves),
                                 (None, heights), (moves, None), ([list(row) for row in moves], heights),
                                 (moves, [list(row) for row in heights]), (moves, heights + [7]), (moves, [heights])]:
            before = picture(thing)
            self.assertIs(check_plan(self.coding, self.sight, self.r, thing), False)
            self.assertIs(check_enemy(self.coding, self.sight, self.r, thing), False)
            self.assertEqual(picture(thing), before)

    def test_a_plan_of_another_sight(self):
        self.assertIs(check_plan(self.coding, 4, self.r, (self.moves, self.heights)), False)
        self.assertIs(check_plan(self.coding, 2, self.r, (self.moves, self.heights)), False)

    def test_errors_whatever_the_thing_is(self):
        for thing in (None, ([], []), [], best_plan(plain(), 1), 7):
            for sight in SIGHTS_THAT_ARE_NONE:
                raises(self, BadSight(), check_plan, plain(), sight, (1, 1), thing)
                raises(self, BadSight(), check_enemy, plain(), sight, (1, 1), thing)
            for coding, sight in ONE_MORE:
                raises(self, TooMany(1000), check_plan, coding, sight, (1, 1), thing)
                raises(self, TooMany(1000), check_enemy, coding, sight, (1, 1), thing)
        for coding, sight in ONE_MORE:
            raises(self, TooMany(1000), best_plan, coding, sight)
            raises(self, TooMany(1000), enemy_plan, coding, sight)
        for sight in SIGHTS_THAT_ARE_NONE:
            raises(self, BadSight(), best_plan, ONE_MORE[0][0], sight)
            raises(self, BadSight(), enemy_plan, ONE_MORE[0][0], sight)


class TestCheckEnemy(unittest.TestCase):
    def setUp(self):
        self.coding = plain()
        self.sight = 4
        self.rows = rows_of_stands(self.coding, self.sight)
        self.r = sight_share(self.coding, self.sight)
        self.plan = enemy_plan(self.coding, self.sight)

    def holds(self, plan):
        before = picture(plan)
        found = check_enemy(self.coding, self.sight, self.r, plan)
        self.assertEqual(picture(plan), before)
        self.assertIn(found, (True, False))
        return found

    def test_rows(self):
        self.assertIs(self.holds(list(reversed(self.plan))), True)
        changed = 0
        for number, (stand, letter, height) in list(enumerate(self.plan))[::3]:
            rest = self.plan[:number] + self.plan[number + 1:]
            # Each stand of the plan is needed, or nothing would lead to it.
            self.assertIs(self.holds(rest), enemy_holds(self.rows, self.r, rest))
            self.assertIs(self.holds(self.plan + [(stand, letter, height)]), False)
            for other in "ab":
                for more in (Fraction(0), TINY, -TINY, Fraction(3), Fraction(-3)):
                    plan = rest + [(stand, other, told(Fraction(*height) + more))]
                    known = enemy_holds(self.rows, self.r, plan)
                    self.assertIs(self.holds(plan), known)
                    changed += not known
            for wrong in ("c", "", "ab", None, 0, True, [letter], (letter,), letter.upper()):
                self.assertIs(self.holds(rest + [(stand, wrong, height)]), False, wrong)
            top, bottom = height
            for wrong in (None, top, [top, bottom], (2 * top, 2 * bottom), (-top, -bottom), (top, 0), (top, bottom, 1)):
                self.assertIs(self.holds(rest + [(stand, letter, wrong)]), False, wrong)
            for wrong in (list(stand), stand + (0,), stand[:2], (stand[0], stand[1], list(stand[2])), None, ""):
                self.assertIs(self.holds(rest + [(wrong, letter, height)]), False, wrong)
            for wrong in (None, 7, [stand, letter, height], (stand, letter), (stand, height), (stand, letter, height, 0),
                          ((stand, letter), height), {}):
                self.assertIs(self.holds(rest + [wrong]), False, wrong)
                self.assertIs(self.holds(self.plan + [wrong]), False, wrong)
        self.assertGreater(changed, len(self.plan))

    def test_further_rows(self):
        further = [stand for stand in self.rows if stand not in [row[0] for row in self.plan]]
        for stand in further:
            for letter in "ab":
                for height in ((GREAT, 1), (-GREAT, 1)):
                    plan = self.plan + [(stand, letter, height)]
                    self.assertIs(self.holds(plan), enemy_holds(self.rows, self.r, plan))
        for stand in (("zzzz", 0, (0, 0)), ("abab", 7, (0, 0)), ("abab", 0, (GREAT, 0)), ("", 1, ()), ("abab", 4, (2, 0)),
                      ready(self.coding, 1, FIRST, "a")[0]):
            if stand not in self.rows:
                self.assertIs(self.holds(self.plan + [(stand, "a", (GREAT, 1))]), False)
                self.assertIs(self.holds(self.plan + [(stand, "a", (-GREAT, 1))]), False)

    def test_the_first_stand(self):
        for more in (1, -1):
            shifted = [(stand, letter, told(Fraction(*height) + more)) for stand, letter, height in self.plan]
            self.assertIs(self.holds(shifted), False)
        self.assertIs(self.holds([]), False)
        self.assertIs(self.holds([(FIRST, "a", (0, 1))]), False)

    def test_other_things(self):
        for thing in [tuple(self.plan), [list(row) for row in self.plan], {row[0]: row[1:] for row in self.plan},
                      (self.plan, self.plan), [self.plan], self.plan[0], best_plan(self.coding, self.sight)]:
            self.assertIs(self.holds(thing), False)


class TestPackedBy(unittest.TestCase):
    def test_against_own_walks(self):
        for coding, sight in shown() + few()[:6]:
            letters = coding.letters
            several = [best_plan(coding, sight)[0]] + [every_move(coding, sight, number) for number in range(3)]
            told_texts = texts(letters, {1: 9, 2: 6, 3: 4}[len(letters)]) + [(letters * 20)[:31], letters[0] * 25 + letters[-1]]
            for moves in several:
                for text in told_texts:
                    way = walked(coding, sight, moves, text)
                    self.assertEqual(picture(packed_by(coding, sight, moves, text)), picture(bits_of(coding, way)))

    def test_at_most_what_the_heights_show(self):
        for coding, sight in shown()[:5]:
            moves, heights = best_plan(coding, sight)
            r = Fraction(*sight_share(coding, sight))
            top = max([Fraction(*height) for _, height in heights])
            dear = max([coding.price(letter) for letter in coding.letters]) * sight
            for text in texts("ab", 8):
                bound = r * (least(coding, text) - coding.price("end")) + top + dear + coding.price("end")
                self.assertLessEqual(len(packed_by(coding, sight, moves, text)), bound)

    def test_no_move(self):
        for coding, sight in shown():
            full = every_move(coding, sight, 1)
            for number in range(0, len(full), 5):
                some = full[:number]
                missing = 0
                for text in texts(coding.letters, 4 if len(coding.letters) < 3 else 2) + [(coding.letters * 9)[:12]]:
                    way = walked(coding, sight, some, text)
                    if way is None:
                        missing += 1
                        raises(self, NoMove(), packed_by, coding, sight, some, text)
                    else:
                        self.assertEqual(packed_by(coding, sight, some, text), bits_of(coding, way))
                self.assertTrue(missing or number > 0 or sight > 4, (number, sight))

    def test_moves_that_cannot_be_made(self):
        stand = ("aaa", 3, (-1, -3))
        self.assertEqual(ready(plain(), 3, ("aa", 2, (-2,)), "a"), (stand, 1))
        self.assertEqual(choices(plain(), 3, stand), ["a"])
        for wrong in ((2, 1), (3, 2), "b", "end", "c", (2, True), (8, 8)):
            raises(self, NoMove(), packed_by, plain(), 3, [(stand, wrong)], "aaa")
            self.assertEqual(packed_by(plain(), 3, [(stand, wrong)], "aa"), "0000111")
            self.assertEqual(packed_by(plain(), 3, [(stand, wrong)], ""), "111")
        self.assertEqual(packed_by(plain(), 3, [(stand, "a"), (("", 3, ()), None)], "aaa"), "000000111")
        raises(self, NoMove(), packed_by, plain(), 3, [(stand, "a")], "aaaa")
        raises(self, NoMove(), packed_by, plain(), 3, [], "aaa")
        later = ready(plain(), 3, ("aaa", 2, (-1, -3)), "a")[0]
        self.assertEqual(choices(plain(), 3, later), ["a", (2, 1)])
        self.assertEqual(packed_by(plain(), 3, [(stand, "a"), (later, (2, 1))], "aaaa"), "0011000111")
        raises(self, NoMove(), packed_by, plain(), 3, [(stand, "a"), (later, (2, True))], "aaaa")

    def test_more_than_1000_stands(self):
        for coding, sight in ONE_MORE:
            moves = every_move(coding, sight, 1)
            for text in texts(coding.letters, 4) + ["ab" * 200]:
                self.assertEqual(packed_by(coding, sight, moves, text),
                                 bits_of(coding, walked(coding, sight, moves, text)))

    def test_wrong_texts(self):
        for text, place in wrong_texts():
            raises(self, BadText(place), packed_by, plain(), 3, [], text)


class TestEnemyText(unittest.TestCase):
    def test_against_own_walks(self):
        for coding, sight in shown():
            answers = {stand: letter for stand, letter, _ in enemy_plan(coding, sight)}
            for moves in [best_plan(coding, sight)[0]] + [every_move(coding, sight, number) for number in range(3)]:
                if not self.can_be_made(coding, sight, moves):
                    continue
                text = enemy_text(coding, sight, moves, 40)
                self.assertEqual([type(text), len(text)], [str, 40])
                taken = dict(moves)
                at = 0
                for end in range(40):
                    self.assertEqual(text[end], answers[stand_of(coding, sight, text[:end], at)])
                    if end + 1 - at == sight:
                        command = taken[stand_of(coding, sight, text[:end + 1], at)]
                        at += 1 if isinstance(command, str) else command[0]
                for length in (0, 1, sight, 39):
                    self.assertEqual(picture(enemy_text(coding, sight, moves, length)), picture(text[:length]))

    def can_be_made(self, coding, sight, moves):
        """The moves of a plan need not tell what the rule does where other stands come."""
        try:
            enemy_text(coding, sight, moves, 40)
        except NoMove:
            return False
        return True

    def test_no_rule_needs_less(self):
        for coding, sight in shown()[:5] + few()[-4:]:
            r = Fraction(*sight_share(coding, sight))
            end = coding.price("end")
            moves, heights = best_plan(coding, sight)
            dear = max([coding.price(letter) for letter in coding.letters]) * sight
            most = max([Fraction(*height) for _, height in heights]) + dear
            # What any rule has at least, less the commands that it has not taken yet.
            fewest = min([Fraction(*height) for _, _, height in enemy_plan(coding, sight)])
            for taken in [moves] + [every_move(coding, sight, number) for number in range(3)]:
                for length in (100, 200, 400):
                    text = enemy_text(coding, sight, taken, length)
                    over = len(packed_by(coding, sight, taken, text)) - end - r * (least(coding, text) - end)
                    self.assertGreaterEqual(over, fewest)
                    if taken == moves:
                        self.assertLessEqual(over, most)

    def test_no_move(self):
        for length in range(3):
            self.assertEqual(len(enemy_text(plain(), 3, [], length)), length)
        for length in (3, 4, 400):
            raises(self, NoMove(), enemy_text, plain(), 3, [], length)
        for coding, sight in shown():
            self.assertEqual(enemy_text(coding, sight, [], 0), "")
            self.assertEqual(len(enemy_text(coding, sight, [], sight - 1)), sight - 1)
            # The ready stand behind the last letter needs its move, too.
            raises(self, NoMove(), enemy_text, coding, sight, [], sight)
            moves = [(stand, "end") for stand, _ in every_move(coding, sight, 0)]
            raises(self, NoMove(), enemy_text, coding, sight, moves, sight)

    def test_errors(self):
        for length in [thing for thing in things() if type(thing) is not int] + [-1, 401, 1000, GREAT, -GREAT]:
            raises(self, BadNumber("length"), enemy_text, plain(), 3, [], length)
            raises(self, BadNumber("length"), enemy_text, plain(), 0, [], length)
            raises(self, BadNumber("length"), enemy_text, *ONE_MORE[0], [], length)
        for sight in SIGHTS_THAT_ARE_NONE:
            for length in (0, 3, 400):
                raises(self, BadSight(), enemy_text, plain(), sight, [], length)
                raises(self, BadSight(), enemy_text, ONE_MORE[0][0], sight, [], length)
        for coding, sight in ONE_MORE:
            for length in (0, 400):
                raises(self, TooMany(1000), enemy_text, coding, sight, [], length)
        self.assertEqual(len(enemy_text(plain(), 2, best_plan(plain(), 2)[0], 400)), 400)


if __name__ == "__main__":
    unittest.main()
