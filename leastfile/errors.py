"""The errors of the package, one class for each kind of failure."""


class PackError(ValueError):
    """Any error that the package raises."""


class BadFormat(PackError):
    """A format's letters, words or prices (part tells which) are not as a format needs them."""

    def __init__(self, part):
        self.part = part


class NoCommand(PackError):
    """What was passed is not a command that is asked for."""


class BadWay(PackError):
    """The item number at of a way cannot stand there; -1 for what is not a list."""

    def __init__(self, at):
        self.at = at


class NoBits(PackError):
    """What was passed is not bits, or not one bit."""


class BadBits(PackError):
    """No file begins with the bits up to and with the bit number at."""

    def __init__(self, at):
        self.at = at


class TooFew(PackError):
    """The bits begin a file; at least due more must follow until one is whole."""

    def __init__(self, due):
        self.due = due


class Left(PackError):
    """A file ends ahead of the bit number at, and more bits follow."""

    def __init__(self, at):
        self.at = at


class NoUndo(PackError):
    """There is not so much to take back."""


class BadText(PackError):
    """The letter at a place of a text is none of the format; -1 for what is not a string."""

    def __init__(self, place):
        self.place = place


class BadNumber(PackError):
    """The number that part names is not one that is let."""

    def __init__(self, part):
        self.part = part


class BadPlaces(PackError):
    """What was passed is not a list of places of the text."""


class BadRule(PackError):
    """A rule's kind or ahead (part tells which) is not as a rule needs it."""

    def __init__(self, part):
        self.part = part


class BadView(PackError):
    """What was passed does not have the form of a view or a stand."""


class TooMany(PackError):
    """There are more views or stands than most."""

    def __init__(self, most):
        self.most = most


class OtherLetters(PackError):
    """Two formats have different letters."""


class BadTexts(PackError):
    """What was passed is not a list of texts, or not of so many."""


class BadLine(PackError):
    """What was passed is not the text of a format or of a way."""


class NoLine(PackError):
    """A line for the desk has none of the forms."""


class NoName(PackError):
    """There is no format with this name."""

    def __init__(self, name):
        self.name = name


class BadSight(PackError):
    """A sight is not one that is let."""


class NoMove(PackError):
    """A plan has no move that can be made at a ready stand."""


class BadFlag(PackError):
    """What was passed is neither True nor False."""


class BadCopies(PackError):
    """What was passed is not a list of different copies, or there are too many commands."""
