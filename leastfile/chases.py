"""Chases: how far an enemy who chooses letters can drive up the sums of a rule that chooses commands."""

from heapq import heapify, heappop, heappush


class Chase:
    """For a fraction r, the weight of a letter and a command is what is paid less r times what is gained.

    The enemy tells letters for as long as he likes; the rule chooses the commands. All weights are told as integers,
    times the bottom of r.
    """

    def __init__(self, arena, r):
        self._arena = arena
        self._top, self._bottom = r
        # For each stand the sum to which the enemy can drive the weights from there; None if there is no greatest.
        self.sums = [0] * len(arena.stands)
        # For each stand the number of the letter by which he does it; None where he stops.
        self.answers = [None] * len(arena.stands)
        # Only what is strictly better is changed: so each ring of the answers has a weight above 0, and the sums rise.
        while self._answer():
            self._follow()

    def option_at(self, after):
        """The option by which a rule holds the sums down at what comes next."""
        options = [option for option in self._arena.options[after] if self.sums[option[2]] is not None]
        return min(options, key=lambda option: self._bottom * option[1] + self.sums[option[2]])

    def _answer(self):
        """Change the answers where another letter drives the weights higher; tell whether there is such a stand."""
        least = [self._least_sum(options) for options in self._arena.options]
        changed = False
        for number, row in enumerate(self._arena.rows):
            if self.sums[number] is not None and self._answer_at(number, row, least):
                changed = True
        return changed

    def _least_sum(self, options):
        """The least of the prices of options and the sums behind them; None if none of these is bounded."""
        bounded = [(price, behind) for command, price, behind in options if self.sums[behind] is not None]
        return min([self._bottom * price + self.sums[behind] for price, behind in bounded], default=None)

    def _answer_at(self, number, row, least):
        """Change the answer at a stand if another letter drives the weights higher; tell whether it does."""
        best = self.sums[number]
        found = False
        for letter, (at, gained) in enumerate(row):
            if least[at] is None:
                self.answers[number] = letter
                return True
            if least[at] - self._top * gained > best:
                best = least[at] - self._top * gained
                self.answers[number] = letter
                found = True
        return found

    def _follow(self):
        """Find the sums anew that the answers drive the weights to."""
        # By how much they rise: the shortest ways to where the enemy stops, along what is never below 0.
        ahead = self._rises_ahead()
        rises = [None] * len(self.sums)
        queue = [(0, number) for number, answer in enumerate(self.answers) if answer is None]
        heapify(queue)
        while queue:
            rise, number = heappop(queue)
            if rises[number] is None:
                rises[number] = rise
                for before, more in ahead[number]:
                    if rises[before] is None:
                        heappush(queue, (rise + more, before))
        for number, rise in enumerate(rises):
            self.sums[number] = None if rise is None else self.sums[number] + rise

    def _rises_ahead(self):
        """For each stand, from which ones the answers and an option lead there, and how far that is above the sums."""
        ahead = [[] for _ in self.sums]
        for number, answer in enumerate(self.answers):
            if answer is not None and self.sums[number] is not None:
                at, gained = self._arena.rows[number][answer]
                base = -self._top * gained - self.sums[number]
                for command, price, behind in self._arena.options[at]:
                    if self.sums[behind] is not None:
                        ahead[behind].append((number, base + self._bottom * price + self.sums[behind]))
        return ahead
