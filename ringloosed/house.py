"""A house: its shelf and its home, and what is kept of both when it stops (points 6.3 and 6.4)."""

from ringloosed.home import Home
from ringloosed.shelf import Shelf

WORDS_OF_THE_SHELF = ("ask", "free", "finish")


class House:
    """A house with a shelf for its keys and a home for its transactions."""

    def __init__(self, number, *, kept=((), (), ())):
        rows, past, trips = kept
        self.number = number
        self._shelf = Shelf(rows, past)
        self._home = Home(number, trips)

    @property
    def shelf(self):
        """The shelf, which must only be looked at."""
        return self._shelf

    @property
    def home(self):
        """The home, which must only be looked at."""
        return self._home

    def kept(self):
        """Return what would be kept if the house stopped now."""
        return self._shelf.rows(), self._shelf.past(), self._home.rows()

    def begin(self, program):
        """Begin a transaction; return its name."""
        return self._home.begin(program)

    def push(self):
        """Return the list of what the home sends now."""
        return self._home.push()

    def handle(self, body):
        """Handle a message; return the list of what is sent, and the event or None."""
        if body[0] in WORDS_OF_THE_SHELF:
            return self._shelf.handle(body), None
        return self._home.handle(body)
