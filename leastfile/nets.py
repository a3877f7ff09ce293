"""Nets: all views that texts lead to, and where each letter leads from each of them."""

from leastfile.errors import TooMany

MOST_VIEWS = 3000


class Net:
    """The views in the order of the least texts that lead to them; the first one is that of the empty text."""

    def __init__(self, letters, first, moved):
        """Find all views; moved tells for a view and a letter the triple (next view, paid, gained)."""
        self.letters = letters
        self.views = [first]
        self.numbers = {first: 0}
        # For each view and each letter: the number of the next view, what is paid, what is gained.
        self.rows = []
        # For each view but the first one: the number of the view ahead of it on its least text, and the letter.
        self.origins = [None]
        while len(self.rows) < len(self.views):
            self._leave(moved)

    def text_to(self, number):
        """The least text that leads to a view."""
        letters = []
        while number > 0:
            number, letter = self.origins[number]
            letters.append(letter)
        return "".join(reversed(letters))

    def walked(self, number, text):
        """The number of the view to which a text leads from a view, and the sums of what is paid and gained."""
        all_paid = 0
        all_gained = 0
        for letter in text:
            number, paid, gained = self.rows[number][self.letters.index(letter)]
            all_paid += paid
            all_gained += gained
        return (number, all_paid, all_gained)

    def _leave(self, moved):
        """Follow each letter from the next view that was not left yet."""
        number = len(self.rows)
        row = []
        for letter in self.letters:
            view, paid, gained = moved(self.views[number], letter)
            if view not in self.numbers:
                self._reach(view, (number, letter))
            row.append((self.numbers[view], paid, gained))
        self.rows.append(row)

    def _reach(self, view, origin):
        """Give a new view its number."""
        if len(self.views) == MOST_VIEWS:
            raise TooMany(MOST_VIEWS)
        self.numbers[view] = len(self.views)
        self.views.append(view)
        self.origins.append(origin)
