"""The marks by which a transaction finds rings (points 4.1 to 4.3)."""


class Marks:
    """The own mark of a transaction, if there is one, and the marks of younger ones that it keeps."""

    def __init__(self, transaction):
        self._transaction = transaction
        self._own = None
        self._younger = {}

    @property
    def own(self):
        """The own mark, None if there is none."""
        return self._own

    def begin(self, mark):
        """Begin an own mark."""
        self._own = mark
        self._younger = {}

    def end(self):
        """End the own mark."""
        self._own = None
        self._younger = {}

    def take(self, marks):
        """Take a tuple of marks; tell whether the own mark is among them."""
        if self._own in marks:
            return True
        for mark in marks:
            if mark[0] > self._transaction:
                self._younger[mark] = True
        return False

    def told(self):
        """Return the ascending tuple of the marks that are told to those who wait."""
        if self._own is None:
            return ()
        return tuple(sorted([self._own] + list(self._younger)))
