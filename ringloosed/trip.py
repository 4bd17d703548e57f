"""The way of one transaction through its program (points 5.1 to 5.7)."""

from ringloosed.marks import Marks
from ringloosed.program import keys_of, run_program


class Trip:
    """A trip: it asks for the keys of its program in order, commits, and ends when all keys are finished."""

    def __init__(self, transaction, program, attempt=1, outcome=None, ended=False):
        self.transaction = transaction
        self.program = program
        self.attempt = attempt
        self._outcome = outcome
        self._ended = ended
        self._keys = keys_of(program)
        self._values = {}
        self._marks = Marks(transaction)
        self._holder = None
        self._freed_keys = {}
        self._finished_keys = {}

    @property
    def state(self):
        """The string "going", "committed" or "ended"."""
        if self._ended:
            return "ended"
        if self._outcome is None:
            return "going"
        return "committed"

    @property
    def mark(self):
        """The own mark, None if there is none."""
        return self._marks.own

    @property
    def outcome(self):
        """None while it is going, then whether the program was done, and the tuple of what was read."""
        if self._outcome is None:
            return None
        return self._outcome[:2]

    def row(self):
        """Return what is kept of the trip: transaction, program, attempt, kept outcome, ended."""
        return self.transaction, self.program, self.attempt, self._outcome, self._ended

    def next_key(self):
        """Return the first key of the program that the trip does not have."""
        for key in self._keys:
            if key not in self._values:
                return key
        return None

    def granted(self, attempt, key, value):
        """Learn that a key was granted to an attempt; tell whether the trip has the key by this."""
        if not self._goes_with(attempt) or key != self.next_key():
            return False
        self._values[key] = value
        self._leave_holder()
        if self.next_key() is None:
            self._commit()
        return True

    def behind(self, attempt, key, turn, holder):
        """Learn behind which who an attempt waits; tell whether a mark begins by this."""
        if not self._goes_with(attempt) or key != self.next_key():
            return False
        if self.mark is not None and self.mark[3] >= turn:
            return False
        self._holder = holder
        self._marks.begin((self.transaction, attempt, key, turn))
        return True

    def told(self, attempt):
        """Return the ascending tuple of the marks that are told to those who wait for an attempt."""
        if not self._goes_with(attempt):
            return ()
        return self._marks.told()

    def take(self, mark, marks):
        """Take marks that the holder tells for a mark; tell whether the trip gives way by this."""
        if mark != self.mark or not self._marks.take(marks):
            return False
        self.attempt += 1
        self._values = {}
        self._freed_keys = {}
        self._leave_holder()
        return True

    def freed(self, attempt, key):
        """Learn that a key was given back for an attempt."""
        if self.state == "going" and attempt == self.attempt - 1:
            self._freed_keys[key] = True

    def finished(self, attempt, key):
        """Learn that a key was finished for an attempt; tell whether the trip has ended by this."""
        if self.state != "committed" or attempt != self.attempt or key not in self._keys:
            return False
        self._finished_keys[key] = True
        self._ended = len(self._finished_keys) == len(self._keys)
        return self._ended

    def push(self):
        """Return the list of the pairs of receiver and body that the trip sends now."""
        if self.state == "ended":
            return []
        if self.state == "committed":
            return self._finishes()
        return self._frees() + self._asks()

    def _goes_with(self, attempt):
        return self.state == "going" and attempt == self.attempt

    def _leave_holder(self):
        self._marks.end()
        self._holder = None

    def _commit(self):
        done, read, behind = run_program(self.program, self._values)
        pairs = [(key, behind[key]) for key in self._keys]
        self._outcome = (done, tuple(read), tuple(pairs))

    def _finishes(self):
        name = self.transaction
        pairs = [pair for pair in self._outcome[2] if pair[0] not in self._finished_keys]
        return [(key[0], ("finish", name, self.attempt, key, value)) for key, value in pairs]

    def _frees(self):
        if self.attempt == 1:
            return []
        keys = [key for key in self._keys if key not in self._freed_keys]
        return [(key[0], ("free", self.transaction, self.attempt - 1, key)) for key in keys]

    def _asks(self):
        key = self.next_key()
        sent = [(key[0], ("ask", self.transaction, self.attempt, key))]
        if self.mark is not None:
            sent.append((self._holder[0][1], ("call",) + self._holder + self.mark))
        return sent
