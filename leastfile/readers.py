"""Readers: files that are read bit by bit."""

from leastfile.basics import END, distance_of, is_between, letters_put, reach_of
from leastfile.errors import BadBits, NoBits, NoUndo


class Reader:
    """Takes the bits of a file one by one, and takes them back."""

    def __init__(self, coding):
        self._words = coding.words
        self._meanings = {self._words[command]: command for command in self._words}
        self._taken = 0
        self._begun = ""
        self._commands = []
        self._letters = []

    def push(self, bit):
        """Take one bit; return the letters that are put by it."""
        if not isinstance(bit, str) or bit not in ("0", "1"):
            raise NoBits()
        if bit not in self.may():
            raise BadBits(self._taken)
        self._taken += 1
        self._begun += bit
        if self._begun not in self._meanings:
            return ""
        return self._put(self._meanings[self._begun])

    def text(self):
        """The text that was put so far."""
        return "".join(self._letters)

    def way(self):
        """The commands that were read so far, without "end"."""
        return [command for command in self._commands if command != END]

    def is_whole(self):
        """Tell whether the file has ended."""
        return self._commands[-1:] == [END]

    def may(self):
        """The bits that can come next."""
        return "".join([bit for bit in "01" if self._coming(self._begun + bit)])

    def lack(self):
        """The least number of bits that must follow until a file is whole."""
        if self.is_whole():
            return 0
        return bits_due(self._words, self._begun, len(self._letters))

    def undo(self, many=1):
        """Take back the last bits."""
        if not is_between(many, 1, self._taken):
            raise NoUndo()
        for _ in range(many):
            self._take_back()

    def _coming(self, begun):
        """The commands that can come, as far as their words begin so."""
        if self.is_whole():
            return []
        return commands_coming(self._words, begun, len(self._letters))

    def _put(self, command):
        """Do what a command whose word has ended says; return the letters that it puts."""
        put = letters_put(self._letters, command)
        self._commands.append(command)
        self._letters.extend(put)
        self._begun = ""
        return "".join(put)

    def _take_back(self):
        """Take back the last bit, and with it the command whose word it has ended."""
        if self._begun == "":
            command = self._commands.pop()
            self._begun = self._words[command]
            for _ in range(reach_of(command)):
                self._letters.pop()
        self._begun = self._begun[:-1]
        self._taken -= 1


def commands_coming(words, begun, ahead):
    """The commands whose words begin so and that reach back over at most so many letters ahead."""
    return [command for command in words if words[command].startswith(begun) and distance_of(command) <= ahead]


def bits_due(words, begun, ahead):
    """The least number of bits behind the begun ones until an "end" is whole, with so many letters ahead."""
    due = []
    for command in commands_coming(words, begun, ahead):
        bits = len(words[command]) - len(begun)
        due.append(bits if command == END else bits + len(words[END]))
    return min(due)
