"""Games: the least quotient that a rule of a sight can hold against an enemy who chooses the letters."""

from leastfile.basics import fraction
from leastfile.chases import Chase
from leastfile.rings import Measure


class Forced:
    """The net of the stands to which rules can come if the enemy has chosen his letters."""

    def __init__(self, arena, answers):
        self.views = [arena.stands[0]]
        # For each stand and each option: the number of the next stand, what is paid as a number below 0, the gain.
        self.rows = []
        self.answers = []
        numbers = [0]
        places = {0: 0}
        while len(self.rows) < len(numbers):
            number = numbers[len(self.rows)]
            at, gained = arena.rows[number][answers[number]]
            for command, price, behind in arena.options[at]:
                if behind not in places:
                    places[behind] = len(numbers)
                    numbers.append(behind)
                    self.views.append(arena.stands[behind])
            self.rows.append([(places[behind], -price, gained) for command, price, behind in arena.options[at]])
            self.answers.append(arena.letters[answers[number]])


class Game:
    """The quotient that both sides can hold, and a plan of each of them."""

    def __init__(self, arena):
        self._arena = arena
        self._enforce([0] * len(arena.stands))
        while self._chase.sums[0] is None:
            self._enforce(self._chase.answers)

    def plan(self):
        """A plan of the rule: a pair (moves, heights)."""
        moves = {}
        numbers = [0]
        placed = {0: True}
        at = 0
        while at < len(numbers):
            for after, _ in self._arena.rows[numbers[at]]:
                command, _, behind = self._chase.option_at(after)
                if command is not None:
                    moves[self._arena.nexts[after]] = command
                if behind not in placed:
                    placed[behind] = True
                    numbers.append(behind)
            at += 1
        return ([(stand, moves[stand]) for stand in moves], [self._height_of(number) for number in numbers])

    def enemy_plan(self):
        """A plan of the enemy: a list of triples (stand, letter, height)."""
        rows = self._measure.table()
        # What is paid was told as numbers below 0, and so were the heights.
        return [(stand, letter, (-height[0], height[1])) for letter, (stand, height) in zip(self._forced.answers, rows)]

    def _enforce(self, answers):
        """Find the least quotient that letters leave to the rules, and look for letters that leave greater ones."""
        self._forced = Forced(self._arena, answers)
        self._measure = Measure(self._forced)
        top, bottom = self._measure.quotient
        self.quotient = (-top, bottom)
        self._chase = Chase(self._arena, self.quotient)

    def _height_of(self, number):
        """The pair (stand, height) of the rule's plan for a stand."""
        sums = self._chase.sums
        return (self._arena.stands[number], fraction(sums[0] - sums[number], self.quotient[1]))
