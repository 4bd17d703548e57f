"""What several tests use: things drawn by a fixed rule, what can be seen of a hall, and what holds in each hall."""

from ringloosed.audit import audit
from ringloosed.hall import Hall
from ringloosed.program import keys_of, run_program
from ringloosed.waits import rings, waits

STATES = ("going", "committed", "ended")


class Drawn:
    """Things that look drawn, by a fixed rule: the same seed gives the same things everywhere."""

    def __init__(self, seed):
        self.state = seed * 2 + 1

    def below(self, many):
        self.state = (self.state * 6364136223846793005 + 1442695040888963407) % 2 ** 64
        return (self.state >> 33) % many

    def one_of(self, things):
        return things[self.below(len(things))]

    def step(self, keys):
        word = self.one_of(("read", "read", "put", "add", "add", "store", "need"))
        step = (word, self.one_of(keys))
        return step if word in ("read", "store") else step + (self.below(7) - 3,)

    def program(self, keys, most=5):
        return tuple(self.step(keys) for _ in range(1 + self.below(most)))


class Deeds:
    """Deeds for a hall, drawn one after the other: messages are lost, late and doubled, and houses stop.

    Out of a hundred deeds about `stops` stop a house and about `losses` drop a message, delivered or not.
    """

    def __init__(self, drawn, hall, keys, most=8, stops=2, losses=10):
        self.drawn = drawn
        self.hall = hall
        self.keys = keys
        self.most = most
        self.stops = stops
        self.losses = losses
        self.delivered = set()

    def next(self):
        drawn = self.drawn
        number = drawn.below(self.hall.houses)
        if len(self.hall.transactions()) < self.most and drawn.below(6) == 0:
            return ("begin", number, drawn.program(self.keys))
        chance = drawn.below(100)
        if chance < 2 * self.stops:
            return ("stop" if drawn.below(2) else "start", number)
        down = [number for number in range(self.hall.houses) if not self.hall.is_up(number)]
        if down and chance < 20:
            return ("start", drawn.one_of(down))
        numbers = self.hall.network.numbers()
        if numbers and 20 <= chance < 20 + self.losses:
            return ("drop", drawn.one_of(numbers))
        return self.next_delivery(numbers) if chance < 95 else ("push", number)

    def next_delivery(self, numbers):
        """Mostly deliver one of the first that were never delivered, sometimes any."""
        fresh = [number for number in numbers if number not in self.delivered]
        if not fresh:
            return ("push", self.drawn.below(self.hall.houses))
        number = self.drawn.one_of(fresh[:5] if self.drawn.below(5) else numbers)
        if self.hall.is_up(self.hall.network.message(number)[1]):
            self.delivered.add(number)
        return ("deliver", number)


def keys_for(houses, many):
    """Return a list of keys, which stand in the houses in turn."""
    letters = "abcdefghij"
    return [(number % houses, letters[number // 10] + letters[number % 10]) for number in range(many)]


def hall_with_ring(many, houses):
    """Return a hall and the list of its transactions, of which each waits for the next one, the last for the first.

    Each has asked for the key that the next one holds, but is not told yet that it is behind somebody.
    """
    hall = Hall(houses)
    keys = keys_for(houses, many)
    transactions = []
    for place, key in enumerate(keys):
        program = (("add", key, 1), ("add", keys[(place + 1) % many], 1))
        transactions.append(hall.begin(place % houses, program))
    firsts = [number for house in range(houses) for number in hall.push(house)]
    seconds = [ask for number in firsts for granted in hall.deliver(number) for ask in hall.deliver(granted)]
    for number in seconds:
        hall.deliver(number)
    return hall, transactions


def shown(hall):
    """Return all that can be seen of a hall."""
    numbers = hall.network.numbers()
    houses = range(hall.houses)
    awake = [(house.kept(), house.push(), waiting_in(house)) for house in map(hall.house, filter(hall.is_up, houses))]
    return (
        hall.houses,
        hall.network.sent,
        [(number, hall.network.message(number)) for number in numbers],
        [(hall.is_up(number), hall.kept(number)) for number in houses],
        awake,
        hall.book(),
        [(transaction, hall.trip(transaction)) for transaction in hall.transactions()],
    )


def waiting_in(house):
    return [(row[0], house.shelf.waiting(row[0])) for row in house.shelf.rows()]


def locks_of(hall):
    """Return the dict from each key that was named in a message to its value, turn and holder."""
    return {row[0]: row[1:] for number in range(hall.houses) for row in hall.kept(number)[0]}


def values_in_turn(programs):
    """Return the dict of the values of all keys when programs are run one after the other, on 0 at first."""
    values = {}
    for program in programs:
        at_first = {key: values.get(key, 0) for key in keys_of(program)}
        values.update(run_program(program, at_first)[2])
    return values


class Watch:
    """What was seen of a hall ahead of a deed, and what must hold behind it."""

    def __init__(self, test, hall):
        self.test = test
        self.hall = hall
        self.look()

    def look(self):
        self.locks = locks_of(self.hall)
        self.trips = {transaction: self.hall.trip(transaction) for transaction in self.hall.transactions()}
        self.book = self.hall.book()
        self.rings = rings(waits(self.hall))

    def check(self):
        """Check what the deed that was done has changed, and look anew."""
        before = (self.locks, self.trips, self.book, self.rings)
        self.look()
        self.check_locks(before[0])
        self.check_trips(before[1])
        new = self.book[len(before[2]):]
        self.test.assertEqual(self.book[:len(before[2])], before[2])
        self.test.assertLessEqual(len(new), 1)
        self.check_rings(before[3], new)
        self.test.assertEqual(audit(self.book), [])
        return new

    def check_locks(self, locks):
        test = self.test
        for key in locks:
            (value, turn, holder), (value_now, turn_now, holder_now) = locks[key], self.locks[key]
            test.assertIn(turn_now - turn, (0, 1))
            if turn_now == turn:
                test.assertIn(holder_now, (holder, None))
            if holder_now != holder and holder is not None:
                # A key is kept until its transaction has committed or has begun anew.
                _, attempt, state = self.trips[holder[0]]
                test.assertTrue(state != "going" or attempt > holder[1])
            if value_now != value:
                test.assertNotEqual(holder_now, holder)
                test.assertNotEqual(self.trips[holder[0]][2], "going")

    def check_trips(self, trips):
        test = self.test
        for transaction in trips:
            (program, attempt, state), now = trips[transaction], self.trips[transaction]
            test.assertEqual(now[0], program)
            test.assertIn(now[1] - attempt, (0, 1))
            test.assertIn(STATES.index(now[2]) - STATES.index(state), (0, 1))
            if state != "going":
                test.assertEqual(now[1], attempt)

    def check_rings(self, rings_before, new):
        """Check that none gave way but the youngest of a ring that stood, and that no other ring went away."""
        gave_way = [event[1] for event in new if event[0] == "gave way"]
        loosed = [ring for ring in rings_before if ring[0] in gave_way]
        self.test.assertEqual(len(loosed), len(gave_way))
        for ring in rings_before:
            self.test.assertIs(ring in self.rings, ring not in loosed)
