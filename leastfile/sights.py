"""Rules of a sight: what they see and may do, and how small the share of such a rule can be made."""

from leastfile.arenas import STAND, Sight, arena_of, check_sight
from leastfile.basics import check_letter, check_view
from leastfile.errors import NoCommand
from leastfile.games import Game


def ready(coding, sight, stand, letter):
    """The stand behind a letter, ready or not, and what is gained."""
    check_sight(sight)
    check_view(stand, STAND)
    check_letter(coding, letter)
    return Sight(coding, sight).told(stand, letter)


def choices(coding, sight, stand):
    """The list of the commands that can be taken at a ready stand, in their order."""
    check_sight(sight)
    check_view(stand, STAND)
    return [command for command, price in Sight(coding, sight).steps(stand)]


def behind(coding, sight, stand, command):
    """The stand behind a command that is taken at a ready stand."""
    check_sight(sight)
    check_view(stand, STAND)
    seen = Sight(coding, sight)
    if not seen.lets(stand, command):
        raise NoCommand()
    return seen.behind(stand, command)


def stands(coding, sight):
    """The number of all stands that are not ready."""
    return len(arena_of(coding, sight).stands)


def sight_share(coding, sight):
    """The least fraction r such that a rule of a sight needs, for all texts, at most r times least and some bits."""
    return Game(arena_of(coding, sight)).quotient
