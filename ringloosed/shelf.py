"""The keys of a house, and what it answers to messages to them (points 3.1 to 3.6)."""

from ringloosed.lock import Lock


def _how_it_stands(lock, key, who):
    """Return the answer that tells a who how it stands with a key that is held."""
    transaction, attempt = who
    if lock.holder == who:
        return transaction[1], ("granted", transaction, attempt, key, lock.turn, lock.value)
    holder, holder_attempt = lock.holder
    return transaction[1], ("behind", transaction, attempt, key, lock.turn, holder, holder_attempt)


def _all_told(lock, key):
    """Return the answers to the one that was granted a key and to all that wait for it."""
    return [_how_it_stands(lock, key, who) for who in [lock.holder] + lock.waiting()]


class Shelf:
    """The locks of the keys of a house, and for which attempts these keys were given back."""

    def __init__(self, rows=(), past=()):
        self._locks = {}
        for key, value, turn, holder in rows:
            self._locks[key] = Lock(value, turn, holder)
        self._given_back = {}
        for key, transaction, attempt in past:
            self._given_back[(key, transaction)] = attempt

    def row(self, key):
        """Return the value, the turn and the holder of a key."""
        if key not in self._locks:
            return 0, 0, None
        lock = self._locks[key]
        return lock.value, lock.turn, lock.holder

    def waiting(self, key):
        """Return the list of the whos that wait for a key, the eldest first."""
        if key not in self._locks:
            return []
        return self._locks[key].waiting()

    def rows(self):
        """Return the tuple of (key, value, turn, holder) of all locks, by ascending keys."""
        rows = []
        for key in sorted(self._locks):
            value, turn, holder = self.row(key)
            rows.append((key, value, turn, holder))
        return tuple(rows)

    def past(self):
        """Return the tuple of (key, transaction, attempt) of what was given back, in ascending order."""
        given_back = self._given_back
        return tuple([(key, transaction, given_back[(key, transaction)]) for key, transaction in sorted(given_back)])

    def handle(self, body):
        """Handle a body of the kind ask, free or finish; return the list of the answers."""
        word, transaction, attempt, key = body[:4]
        if key not in self._locks:
            self._locks[key] = Lock()
        if word == "ask":
            return self._ask(key, transaction, attempt)
        if word == "free":
            return self._free(key, transaction, attempt)
        return self._finish(key, transaction, attempt, body[4])

    def _ask(self, key, transaction, attempt):
        if self._is_given_back(key, transaction, attempt):
            return []
        lock = self._locks[key]
        who = (transaction, attempt)
        if lock.ask(who):
            return _all_told(lock, key)
        return [_how_it_stands(lock, key, who)]

    def _free(self, key, transaction, attempt):
        self._give_back(key, transaction, attempt)
        lock = self._locks[key]
        answers = []
        if lock.free(transaction, attempt):
            answers = _all_told(lock, key)
        return answers + [(transaction[1], ("freed", transaction, attempt, key))]

    def _finish(self, key, transaction, attempt, value):
        lock = self._locks[key]
        who = (transaction, attempt)
        answers = []
        if lock.holder == who:
            self._give_back(key, transaction, attempt)
            if lock.finish(who, value):
                answers = _all_told(lock, key)
        # Also for one that does not hold the key any more: its first answer may have been lost.
        if self._is_given_back(key, transaction, attempt):
            answers = answers + [(transaction[1], ("finished", transaction, attempt, key))]
        return answers

    def _is_given_back(self, key, transaction, attempt):
        return self._given_back.get((key, transaction), 0) >= attempt

    def _give_back(self, key, transaction, attempt):
        before = self._given_back.get((key, transaction), 0)
        self._given_back[(key, transaction)] = max(before, attempt)
