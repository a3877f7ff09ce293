"""Plans: what shows how small the share of a rule of a sight can be made, and that it cannot be made smaller."""

from leastfile.arenas import FIRST_STAND, STAND, Sight, arena_of
from leastfile.basics import END, check_number, check_text, is_command, is_fraction, is_of_form, is_pair
from leastfile.errors import NoMove
from leastfile.games import Game
from leastfile.rings import excess

MOST_TOLD = 400


class Mover:
    """The rule of a sight that takes the commands of moves, on the way through a text."""

    def __init__(self, coding, sight, moves):
        self._sight = Sight(coding, sight)
        self._moves = {stand: command for stand, command in moves}
        self.stand = FIRST_STAND
        # The commands that were taken so far.
        self.taken = []

    def hear(self, letter):
        """Go on behind a letter, and take a command if it is time."""
        stand, _ = self._sight.told(self.stand, letter)
        if self._sight.is_ready(stand):
            command = self._moves.get(stand)
            if not self._sight.lets(stand, command):
                raise NoMove()
            self.taken.append(command)
            stand = self._sight.behind(stand, command)
        self.stand = stand

    def waiting(self):
        """The list of the letters that wait."""
        tail, waits, _ = self.stand
        return list(tail[len(tail) - waits:])


def best_plan(coding, sight):
    """A plan for the sight_share: a pair (moves, heights)."""
    return Game(arena_of(coding, sight)).plan()


def check_plan(coding, sight, r, thing):
    """Tell whether something is a plan for a fraction r above 0."""
    arena = arena_of(coding, sight)
    if not is_pair(thing) or not _are_moves(thing[0]) or not _are_heights(arena, thing[1]):
        return False
    moves = {stand: command for stand, command in thing[0]}
    heights = {arena.numbers[stand]: height for stand, height in thing[1]}
    return all([_is_held(arena, r, moves, heights, number) for number in heights])


def packed_by(coding, sight, moves, text):
    """The file that the rule makes of a text that takes the commands of moves, and letters at the end."""
    check_text(coding, text)
    mover = Mover(coding, sight, moves)
    for letter in text:
        mover.hear(letter)
    words = coding.words
    return "".join([words[command] for command in mover.taken + mover.waiting() + [END]])


def enemy_plan(coding, sight):
    """An enemy's plan for the sight_share: a list of triples (stand, letter, height)."""
    return Game(arena_of(coding, sight)).enemy_plan()


def check_enemy(coding, sight, r, thing):
    """Tell whether something is an enemy's plan for a fraction r above 0."""
    arena = arena_of(coding, sight)
    if not isinstance(thing, list) or not all([_is_answer(arena, row) for row in thing]):
        return False
    if not _are_heights(arena, [(stand, height) for stand, letter, height in thing]):
        return False
    heights = {arena.numbers[stand]: height for stand, letter, height in thing}
    return all([_is_driven(arena, r, heights, arena.numbers[stand], letter) for stand, letter, height in thing])


def enemy_text(coding, sight, moves, length):
    """The text that comes of the enemy's plan of enemy_plan if the rule takes the commands of moves."""
    check_number(length, 0, MOST_TOLD, "length")
    answers = {stand: letter for stand, letter, height in enemy_plan(coding, sight)}
    mover = Mover(coding, sight, moves)
    letters = []
    for _ in range(length):
        letters.append(answers[mover.stand])
        mover.hear(letters[-1])
    return "".join(letters)


def _are_moves(thing):
    """Tell whether something is a list of pairs of a tuple of the form of a stand, each once, and anything."""
    if not isinstance(thing, list) or not all([is_pair(row) and is_of_form(row[0], STAND) for row in thing]):
        return False
    return len({stand: True for stand, beside in thing}) == len(thing)


def _are_heights(arena, thing):
    """Tell whether something is a list of pairs of a stand of an arena, each once, and its height."""
    if not isinstance(thing, list) or not all([_is_height(arena, row) for row in thing]):
        return False
    heights = {stand: height for stand, height in thing}
    return len(heights) == len(thing) and heights.get(FIRST_STAND) == (0, 1)


def _is_height(arena, thing):
    """Tell whether something is a pair of a stand of an arena and a fraction."""
    return is_pair(thing) and is_of_form(thing[0], STAND) and thing[0] in arena.numbers and is_fraction(thing[1])


def _is_answer(arena, thing):
    """Tell whether something is a triple with a letter in the middle."""
    if not isinstance(thing, tuple) or len(thing) != 3 or not isinstance(thing[1], str):
        return False
    return len(thing[1]) == 1 and thing[1] in arena.letters


def _is_held(arena, r, moves, heights, number):
    """Tell whether moves hold the heights low enough on each letter from a stand."""
    for after, gained in arena.rows[number]:
        option = _option_of(arena, moves, after)
        if option is None or option[2] not in heights:
            return False
        if excess(r, heights[number], heights[option[2]], option[1], gained) < 0:
            return False
    return True


def _option_of(arena, moves, after):
    """The option that moves take at what comes next, or None."""
    if arena.options[after][0][0] is None:
        return arena.options[after][0]
    command = moves.get(arena.nexts[after])
    fitting = [option for option in arena.options[after] if option[0] == command]
    if not fitting or not is_command(arena.letters, command):
        return None
    return fitting[0]


def _is_driven(arena, r, heights, number, letter):
    """Tell whether a letter drives the heights high enough from a stand, whatever command is taken."""
    after, gained = arena.rows[number][arena.letters.index(letter)]
    for _, price, behind in arena.options[after]:
        if behind not in heights or excess(r, heights[number], heights[behind], price, gained) > 0:
            return False
    return True
