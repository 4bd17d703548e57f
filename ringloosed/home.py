"""The home of a house: the trips that were begun there, and the messages to them (points 6.1 and 6.2)."""

from ringloosed.errors import Unknown
from ringloosed.trip import Trip


def _handle_granted(trip, body):
    transaction, attempt, key = body[1:4]
    if not trip.granted(attempt, key, body[5]):
        return [], None
    if trip.state != "committed":
        return trip.push(), None
    done, read = trip.outcome
    return trip.push(), ("committed", transaction, attempt, done, read)


def _handle_behind(trip, body):
    attempt, key, turn = body[2:5]
    if not trip.behind(attempt, key, turn, body[5:]):
        return [], None
    return trip.push(), None


def _handle_freed(trip, body):
    attempt, key = body[2:]
    trip.freed(attempt, key)
    return [], None


def _handle_finished(trip, body):
    transaction, attempt, key = body[1:]
    if not trip.finished(attempt, key):
        return [], None
    return [], ("ended", transaction)


def _handle_call(trip, body):
    attempt, caller, caller_attempt, key, turn = body[2:]
    marks = trip.told(attempt)
    if not marks:
        return [], None
    return [(caller[1], ("marks", caller, caller_attempt, key, turn, marks))], None


def _handle_marks(trip, body):
    transaction, attempt = body[1:3]
    if not trip.take(body[1:5], body[5]):
        return [], None
    return trip.push(), ("gave way", transaction, attempt)


HANDLERS = {
    "granted": _handle_granted,
    "behind": _handle_behind,
    "freed": _handle_freed,
    "finished": _handle_finished,
    "call": _handle_call,
    "marks": _handle_marks,
}


class Home:
    """The trips of the transactions that were begun at a house."""

    def __init__(self, house, rows=()):
        self.house = house
        self._trips = {}
        for transaction, program, attempt, outcome, ended in rows:
            self._trips[transaction] = Trip(transaction, program, attempt, outcome, ended)

    def begin(self, program):
        """Begin a transaction with a new trip; return its name."""
        transaction = (len(self._trips) + 1, self.house)
        self._trips[transaction] = Trip(transaction, program)
        return transaction

    def trip(self, transaction):
        """Return the trip of a transaction, which must only be looked at."""
        if transaction not in self._trips:
            raise Unknown("there is no such transaction at this house")
        return self._trips[transaction]

    def transactions(self):
        """Return the list of the transactions, the eldest first."""
        return sorted(self._trips)

    def rows(self):
        """Return the tuple of the rows of all trips, the eldest first."""
        return tuple([self._trips[transaction].row() for transaction in self.transactions()])

    def push(self):
        """Return the list of what all trips send now, the eldest first."""
        sent = []
        for transaction in self.transactions():
            sent.extend(self._trips[transaction].push())
        return sent

    def handle(self, body):
        """Handle a message to a trip; return the list of what is sent, and the event or None."""
        if body[1] not in self._trips:
            return [], None
        handler = HANDLERS[body[0]]
        return handler(self._trips[body[1]], body)
