"""Points 32 to 34: the solver behind the plans, on small games of all kinds, also such as no format has."""

import random
import unittest
from fractions import Fraction
from itertools import product

from leastfile.chases import Chase
from leastfile.games import Game
from tests.standing import FIRST, greatest_quotient


class Board:
    """What looks like an arena: some stands, two letters, and what comes next with a few options."""

    def __init__(self, number):
        dice = random.Random(number)
        many = dice.randint(1, 5)
        self.letters = "ab"[:dice.randint(1, 2)]
        self.stands = [FIRST] + [("stand", at, ()) for at in range(1, many)]
        self.numbers = {stand: at for at, stand in enumerate(self.stands)}
        self.nexts = []
        self.options = []
        self.rows = []
        for _ in self.stands:
            row = []
            for _ in self.letters:
                row.append((len(self.nexts), dice.randint(1, 3)))
                self.nexts.append(("next", len(self.nexts), ()))
                self.options.append([(command, dice.randint(1, 6), dice.randrange(many))
                                     for command in range(dice.randint(1, 2))])
            self.rows.append(row)

    def quotient(self):
        """The least of the greatest quotients, over each way of choosing an option at each place."""
        return min([greatest_quotient(self.graph(choice)) for choice in product(*self.options)])

    def graph(self, choice):
        graph = {}
        for stand, row in zip(self.stands, self.rows):
            graph[stand] = [(self.stands[choice[after][2]], choice[after][1], gained) for after, gained in row]
        due = [FIRST]
        for stand in due:
            due += [behind for behind, _, _ in graph[stand] if behind not in due]
        return {stand: graph[stand] for stand in due}

    def plan_holds(self, r, plan):
        moves, heights = dict(plan[0]), {stand: Fraction(*height) for stand, height in plan[1]}
        for stand in heights:
            for after, gained in self.rows[self.numbers[stand]]:
                _, price, behind = self.options[after][moves[self.nexts[after]]]
                if heights.get(self.stands[behind], -10 ** 9) < heights[stand] + price - r * gained:
                    return False
        return heights[FIRST] == 0

    def enemy_holds(self, r, plan):
        heights = {stand: Fraction(*height) for stand, _, height in plan}
        for stand, letter, _ in plan:
            after, gained = self.rows[self.numbers[stand]][self.letters.index(letter)]
            for _, price, behind in self.options[after]:
                if heights.get(self.stands[behind], 10 ** 9) > heights[stand] + price - r * gained:
                    return False
        return heights[FIRST] == 0


class TestGames(unittest.TestCase):
    def test_against_each_way_to_choose(self):
        # On some of them, the quotients from other stands are greater than that from the first one.
        lost = 0
        for number in range(700):
            board = Board(number)
            game = Game(board)
            wanted = board.quotient()
            self.assertEqual(game.quotient, wanted.as_integer_ratio(), number)
            self.assertTrue(board.plan_holds(wanted, game.plan()), number)
            self.assertTrue(board.enemy_holds(wanted, game.enemy_plan()), number)
            lost += None in Chase(board, game.quotient).sums
        self.assertGreater(lost, 30)

    def test_below_and_above_the_quotient(self):
        for number in range(200):
            board = Board(number)
            quotient = Fraction(*Game(board).quotient)
            for more in (Fraction(1, 10 ** 9), Fraction(2), Fraction(0)):
                self.assertIsNotNone(Chase(board, (quotient + more).as_integer_ratio()).sums[0])
            for less in (Fraction(1, 10 ** 9), quotient / 2):
                self.assertIsNone(Chase(board, (quotient - less).as_integer_ratio()).sums[0])


if __name__ == "__main__":
    unittest.main()
