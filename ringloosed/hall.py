"""The hall: all houses, the network between them, and the book of events (points 8.1 to 8.4)."""

from ringloosed.errors import BadValue, Down, Unknown
from ringloosed.house import House
from ringloosed.network import Network
from ringloosed.program import keys_of
from ringloosed.values import is_program

MOST_HOUSES = 6


class Hall:
    """Some houses with a network and a book, in which everything happens by deeds."""

    def __init__(self, houses):
        # The exact class is asked for: True is an integer to Python.
        if type(houses) is not int or not 1 <= houses <= MOST_HOUSES:
            raise BadValue("a hall has 1 to 6 houses")
        self.houses = houses
        self.network = Network()
        self._houses = [House(number) for number in range(houses)]
        self._ups = [True] * houses
        self._events = []

    def begin(self, number, program):
        """Begin a transaction at a house; return its name."""
        house = self.house(number)
        if not self._fits(program):
            raise BadValue("this is no program for the houses of the hall")
        transaction = house.begin(program)
        self._events.append(("began", transaction, program))
        return transaction

    def push(self, number):
        """Send what the home of a house sends now; return the list of the numbers of the messages."""
        return self._send(number, self.house(number).push())

    def deliver(self, number):
        """Deliver a message; return the list of the numbers of the messages that are sent for it."""
        _, receiver, body = self.network.message(number)
        pairs, event = self.house(receiver).handle(body)
        if event is not None:
            self._events.append(event)
        return self._send(receiver, pairs)

    def drop(self, number):
        """Drop a message."""
        self.network.drop(number)

    def stop(self, number):
        """Let a house go down, so that only what it keeps is left of it."""
        if self.is_up(number):
            # What is left is made a new house already now, not when it is started:
            # of a house that is down nothing can be seen but what was kept of it.
            self._houses[number] = House(number, kept=self._houses[number].kept())
            self._ups[number] = False

    def start(self, number):
        """Let a house that is down be up again, made from what was kept of it."""
        if not self.is_up(number):
            self._ups[number] = True

    def is_up(self, number):
        """Tell whether a house is up."""
        self._any_house(number)
        return self._ups[number]

    def house(self, number):
        """Return a house that is up, which must only be looked at."""
        if not self.is_up(number):
            raise Down("the house is down")
        return self._houses[number]

    def kept(self, number):
        """Return what was kept of a house that is down, or would be kept of one that is up."""
        return self._any_house(number).kept()

    def book(self):
        """Return the list of all events, in order."""
        return list(self._events)

    def lock(self, key):
        """Return the value, the turn and the holder of a key, also if its house is down."""
        return self._any_house(key[0]).shelf.row(key)

    def trip(self, transaction):
        """Return the program, the attempt and the state of a transaction, also if its home is down."""
        trip = self._any_house(transaction[1]).home.trip(transaction)
        return trip.program, trip.attempt, trip.state

    def transactions(self):
        """Return the list of all transactions, the eldest first."""
        found = []
        for house in self._houses:
            found.extend(house.home.transactions())
        return sorted(found)

    def _any_house(self, number):
        # Asked for plainly: a negative number would be an index from the end.
        if not 0 <= number < self.houses:
            raise Unknown("there is no house with this number")
        return self._houses[number]

    def _fits(self, program):
        return is_program(program) and all([key[0] < self.houses for key in keys_of(program)])

    def _send(self, sender, pairs):
        return [self.network.send(sender, receiver, body) for receiver, body in pairs]
