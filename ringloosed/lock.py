"""The lock of one key (points 2.1 to 2.5)."""


def _is_up_to(who, transaction, attempt):
    return who[0] == transaction and who[1] <= attempt


class Lock:
    """A lock with a value, a turn, a holder (a who or None), and whos that wait.

    Nobody waits while there is no holder: a key that comes free is granted at once.
    """

    def __init__(self, value=0, turn=0, holder=None):
        self.value = value
        self.turn = turn
        self.holder = holder
        self._whos = []

    def waiting(self):
        """Return the list of the whos that wait, the eldest first."""
        return sorted(self._whos)

    def ask(self, who):
        """Let a who ask for the key; return the list of the whos to whom it is granted."""
        transaction, attempt = who
        granted = self.free(transaction, attempt - 1)
        if self.holder is None:
            return self._grant(who)
        if self.holder != who and who not in self._whos:
            self._whos.append(who)
        return granted

    def free(self, transaction, attempt):
        """Free the key from a transaction up to an attempt; return the list of the whos to whom it is granted."""
        self._whos = [who for who in self._whos if not _is_up_to(who, transaction, attempt)]
        if self.holder is None or not _is_up_to(self.holder, transaction, attempt):
            return []
        self.holder = None
        if not self._whos:
            return []
        return self._grant(min(self._whos))

    def finish(self, who, value):
        """Let a who finish with a value, if it is the holder; return the list of the whos to whom it is granted."""
        if self.holder != who:
            return []
        self.value = value
        transaction, attempt = who
        return self.free(transaction, attempt)

    def _grant(self, who):
        self.turn += 1
        self.holder = who
        self._whos = [other for other in self._whos if other != who]
        return [who]
