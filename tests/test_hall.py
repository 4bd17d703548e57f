"""The hall: its deeds, their errors, and its readers (points 8.1 to 8.4)."""

import unittest

from ringloosed.errors import BadValue, Down, Unknown
from ringloosed.hall import Hall
from ringloosed.house import House
from ringloosed.network import Network
from tests.helper import Deeds, Drawn, keys_for, locks_of, shown

A, B, C = (0, "a"), (1, "b"), (2, "c")
ME, OTHER = (1, 0), (1, 1)
PROGRAM = (("read", A), ("add", B, 2))
BACK = (("add", B, 1), ("add", A, 1))
NO_PROGRAMS = (
    None, True, 0, "", "read", (), [], {}, object(), [("read", A)], ("read", A), (("read",),), (("read", A), None),
    (("write", A),), (("add", A),), (("read", A, 1),), (("add", A, True),), (("add", A, 10 ** 12 + 1),),
    (("read", (-1, "a")),), (("read", (0, "")),), (("read", [0, "a"]),), (["read", A],), (("read", A),) * 13,
)
NO_HOUSES = (-1, -2, -3, -4, 3, 4, 6, 10 ** 12, -10 ** 12)


def hall_with(programs=((0, PROGRAM),), houses=3):
    """Return a hall in which transactions were begun, of pairs of their home and their program."""
    hall = Hall(houses)
    for number, program in programs:
        hall.begin(number, program)
    return hall


def deliver_all(hall):
    """Deliver each message once, the least number first, and leave it in the network."""
    number = 0
    while number < hall.network.sent:
        number += 1
        hall.deliver(number)


def hall_behind_one_commit():
    """Return a hall in which ME has read A, changed B and ended; the messages are all in the network."""
    hall = hall_with()
    hall.push(0)
    deliver_all(hall)
    return hall


def hall_in_a_ring():
    """Return a hall in which ME and OTHER wait for each other, and know it of their keys but not of the ring."""
    hall = hall_with(((0, PROGRAM), (1, BACK)))
    for home in (0, 1):
        ask = hall.push(home)[0]
        hall.deliver(hall.deliver(ask)[0])
    for number in (3, 4, 5, 6):
        if hall.network.message(number)[2][0] == "ask":
            hall.deliver(hall.deliver(number)[0])
    return hall


class PlainHall:
    """A hall of plain parts, to compare with: houses, messages by their numbers, and a book."""

    def __init__(self, houses):
        self.houses = houses
        self.up = {number: House(number) for number in range(houses)}
        self.down = {}
        self.messages = {}
        self.sent = 0
        self.events = []

    def perform(self, deed):
        word, number = deed[:2]
        missing = number not in (self.messages if word in ("deliver", "drop") else range(self.houses))
        if missing:
            return ("refused", "Unknown")
        house = self.messages[number][1] if word == "deliver" else number
        if word in ("begin", "push", "deliver") and house in self.down:
            return ("refused", "Down")
        if word == "begin" and any(step[1][0] >= self.houses for step in deed[2]):
            return ("refused", "BadValue")
        return ("done", self.do(*deed))

    def do(self, word, number, program=None):
        if word == "begin":
            self.events.append(("began", self.up[number].begin(program), program))
            return self.events[-1][1]
        if word == "push":
            return self.send(number, self.up[number].push())
        if word == "deliver":
            _, receiver, body = self.messages[number]
            pairs, event = self.up[receiver].handle(body)
            self.events += [event] if event else []
            return self.send(receiver, pairs)
        if word == "drop":
            del self.messages[number]
        elif word == "stop" and number in self.up:
            self.down[number] = self.up.pop(number).kept()
        elif word == "start" and number in self.down:
            self.up[number] = House(number, kept=self.down.pop(number))
        return None

    def send(self, sender, pairs):
        numbers = []
        for receiver, body in pairs:
            self.sent += 1
            self.messages[self.sent] = (sender, receiver, body)
            numbers.append(self.sent)
        return numbers


class HallCase(unittest.TestCase):
    def unchanged(self, hall, error, deed, *arguments):
        """Do a deed that raises an error, and must change nothing."""
        before = shown(hall)
        with self.assertRaises(error):
            deed(*arguments)
        self.assertEqual(shown(hall), before)

    def sends(self, hall, numbers, *messages):
        """Check the numbers that a deed returned, and the messages with these numbers, which are the last ones."""
        self.assertIs(type(numbers), list)
        last = hall.network.sent
        self.assertEqual(numbers, list(range(last - len(messages) + 1, last + 1)))
        self.assertEqual(tuple(hall.network.message(number) for number in numbers), messages)


class NewHallTest(HallCase):
    def test_each_size(self):
        for houses in range(1, 7):
            hall = Hall(houses)
            self.assertEqual(hall.houses, houses)
            self.assertIs(type(hall.network), Network)
            self.assertEqual((hall.network.sent, hall.network.numbers(), hall.book()), (0, [], []))
            self.assertEqual((hall.transactions(), type(hall.transactions()), type(hall.book())), ([], list, list))
            for number in range(houses):
                self.assertIs(hall.is_up(number), True)
                self.assertEqual((hall.house(number).number, hall.kept(number)), (number, ((), (), ())))
                self.assertIs(type(hall.house(number)), House)
                self.assertEqual((hall.push(number), hall.lock((number, "a"))), ([], (0, 0, None)))
            for number in (-1, houses):
                with self.assertRaises(Unknown):
                    hall.is_up(number)

    def test_other_sizes(self):
        for houses in (0, -1, -6, 7, 8, 100, 10 ** 30):
            with self.assertRaises(BadValue):
                Hall(houses)

    def test_what_is_no_size(self):
        for houses in (True, False, None, "3", "", b"3", 3.0, 1.5, (), (3,), [3], {}, {3}, object(), int, Hall):
            with self.assertRaises(BadValue):
                Hall(houses)


class BeginTest(HallCase):
    def test_programs_that_fit(self):
        hall = Hall(3)
        self.assertEqual(hall.begin(0, PROGRAM), (1, 0))
        self.assertEqual(hall.begin(2, (("put", C, 1),)), (1, 2))
        self.assertEqual(hall.begin(0, (("need", (2, "key"), -1),) * 12), (2, 0))
        self.assertEqual(hall.begin(1, PROGRAM), (1, 1))
        self.assertEqual(hall.transactions(), [(1, 0), (1, 1), (1, 2), (2, 0)])
        self.assertEqual(
            hall.book(),
            [
                ("began", (1, 0), PROGRAM), ("began", (1, 2), (("put", C, 1),)),
                ("began", (2, 0), (("need", (2, "key"), -1),) * 12), ("began", (1, 1), PROGRAM),
            ],
        )
        self.assertEqual(hall.network.sent, 0)

    def test_what_is_no_program(self):
        for program in NO_PROGRAMS:
            hall = hall_with()
            self.unchanged(hall, BadValue, hall.begin, 0, program)
            self.assertEqual(hall.begin(0, PROGRAM), (2, 0))

    def test_keys_of_houses_that_are_not_there(self):
        for houses in range(1, 7):
            hall = Hall(houses)
            for house in (houses, houses + 1, 10 ** 12):
                for key in ((house, "a"), (house, "zz")):
                    self.unchanged(hall, BadValue, hall.begin, 0, (("read", key),))
                    self.unchanged(hall, BadValue, hall.begin, 0, (("read", A), ("add", key, 1), ("read", A)))
            self.assertEqual(hall.begin(0, (("read", (houses - 1, "a")),)), (1, 0))

    def test_a_program_may_have_keys_of_a_house_that_is_down(self):
        hall = Hall(3)
        hall.stop(1)
        self.assertEqual(hall.begin(0, PROGRAM), (1, 0))

    def test_names_go_on_behind_a_stop(self):
        hall = hall_with(((0, PROGRAM), (0, PROGRAM)))
        hall.stop(0)
        hall.start(0)
        self.assertEqual(hall.begin(0, PROGRAM), (3, 0))


class PushTest(HallCase):
    def test_what_is_sent(self):
        hall = hall_with(((0, PROGRAM), (1, PROGRAM), (0, (("put", C, 1), ("read", A)))))
        self.sends(hall, hall.push(0), (0, 0, ("ask", (1, 0), 1, A)), (0, 2, ("ask", (2, 0), 1, C)))
        self.sends(hall, hall.push(1), (1, 0, ("ask", (1, 1), 1, A)))
        self.sends(hall, hall.push(2))
        self.sends(hall, hall.push(0), (0, 0, ("ask", (1, 0), 1, A)), (0, 2, ("ask", (2, 0), 1, C)))
        self.assertEqual(hall.network.numbers(), [1, 2, 3, 4, 5])
        self.assertEqual(len(hall.book()), 3)

    def test_each_trip_sends_what_it_sends(self):
        hall = hall_in_a_ring()
        hall.begin(0, PROGRAM)
        self.sends(
            hall, hall.push(0),
            (0, 1, ("ask", ME, 1, B)), (0, 1, ("call", OTHER, 1, ME, 1, B, 1)), (0, 0, ("ask", (2, 0), 1, A)),
        )

    def test_push_is_that_of_the_house(self):
        hall = hall_in_a_ring()
        for number in range(3):
            pairs = hall.house(number).push()
            self.sends(hall, hall.push(number), *[(number, receiver, body) for receiver, body in pairs])


class DeliverTest(HallCase):
    def test_the_way_of_a_transaction(self):
        hall = hall_with(((1, PROGRAM),))
        hall.push(1)
        self.sends(hall, hall.deliver(1), (0, 1, ("granted", OTHER, 1, A, 1, 0)))
        self.sends(hall, hall.deliver(2), (1, 1, ("ask", OTHER, 1, B)))
        self.sends(hall, hall.deliver(3), (1, 1, ("granted", OTHER, 1, B, 1, 0)))
        self.assertEqual(hall.book(), [("began", OTHER, PROGRAM)])
        finishes = (1, 0, ("finish", OTHER, 1, A, 0)), (1, 1, ("finish", OTHER, 1, B, 2))
        self.sends(hall, hall.deliver(4), *finishes)
        self.assertEqual(hall.book()[1:], [("committed", OTHER, 1, True, (0,))])
        self.sends(hall, hall.deliver(6), (1, 1, ("finished", OTHER, 1, B)))
        self.sends(hall, hall.deliver(5), (0, 1, ("finished", OTHER, 1, A)))
        self.sends(hall, hall.deliver(7))
        self.assertEqual(len(hall.book()), 2)
        self.sends(hall, hall.deliver(8))
        self.assertEqual(hall.book()[2:], [("ended", OTHER)])
        self.assertEqual(hall.network.numbers(), [1, 2, 3, 4, 5, 6, 7, 8])

    def test_a_delivered_message_stays_and_may_be_delivered_again(self):
        hall = hall_with()
        hall.push(0)
        message = hall.network.message(1)
        for number in (2, 3, 4):
            self.sends(hall, hall.deliver(1), (0, 0, ("granted", ME, 1, A, 1, 0)))
            self.assertEqual((hall.network.message(1), hall.network.numbers()[-1]), (message, number))
        self.sends(hall, hall.deliver(2), (0, 1, ("ask", ME, 1, B)))
        for number in (3, 4, 2):
            self.sends(hall, hall.deliver(number))
        self.assertEqual(hall.network.numbers(), [1, 2, 3, 4, 5])

    def test_delivering_again_behind_the_end_does_no_harm(self):
        hall = hall_behind_one_commit()
        before = (hall.book(), locks_of(hall), hall.trip(ME))
        self.assertEqual(hall.trip(ME), (PROGRAM, 1, "ended"))
        for number in hall.network.numbers() * 2:
            hall.deliver(number)
        self.assertEqual((hall.book(), locks_of(hall), hall.trip(ME)), before)

    def test_to_all_who_wait(self):
        hall = hall_with(((0, (("put", C, 5),)), (2, (("read", C),)), (1, (("read", C),))))
        for number in range(3):
            hall.deliver(hall.push(number)[0])
        granted = [number for number in hall.network if hall.network.message(number)[2][0] == "granted"]
        finish = hall.deliver(granted[0])
        self.sends(hall, finish, (0, 2, ("finish", ME, 1, C, 5)))
        self.sends(
            hall, hall.deliver(finish[0]),
            (2, 1, ("granted", (1, 1), 1, C, 2, 5)), (2, 2, ("behind", (1, 2), 1, C, 2, (1, 1), 1)),
            (2, 0, ("finished", ME, 1, C)),
        )

    def test_giving_way(self):
        hall = hall_in_a_ring()
        self.assertEqual(len(hall.book()), 2)
        call = hall.push(0)[1]
        marks = hall.deliver(call)
        self.sends(hall, marks, (1, 0, ("marks", ME, 1, B, 1, ((OTHER, 1, A, 1),))))
        self.sends(hall, hall.deliver(marks[0]))
        call = hall.push(1)[1]
        marks = hall.deliver(call)
        self.sends(hall, marks, (0, 1, ("marks", OTHER, 1, A, 1, ((ME, 1, B, 1), (OTHER, 1, A, 1)))))
        self.assertEqual(len(hall.book()), 2)
        self.sends(
            hall, hall.deliver(marks[0]),
            (1, 1, ("free", OTHER, 1, B)), (1, 0, ("free", OTHER, 1, A)), (1, 1, ("ask", OTHER, 2, B)),
        )
        self.assertEqual(hall.book()[2:], [("gave way", OTHER, 1)])
        self.assertEqual((hall.trip(OTHER), hall.trip(ME)), ((BACK, 2, "going"), (PROGRAM, 1, "going")))

    def test_a_house_may_send_to_itself(self):
        hall = hall_with(houses=1, programs=((0, (("put", A, 1),)),))
        self.sends(hall, hall.push(0), (0, 0, ("ask", ME, 1, A)))
        self.sends(hall, hall.deliver(1), (0, 0, ("granted", ME, 1, A, 1, 0)))


class DropTest(HallCase):
    def test_a_message_is_lost(self):
        hall = hall_with()
        hall.push(0)
        hall.push(0)
        before = shown(hall)
        self.assertIsNone(hall.drop(1))
        self.assertEqual(hall.network.numbers(), [2])
        after = shown(hall)
        self.assertEqual(after[:2] + after[3:], before[:2] + before[3:])
        self.unchanged(hall, Unknown, hall.deliver, 1)
        self.unchanged(hall, Unknown, hall.drop, 1)
        self.assertEqual(hall.push(0), [3])

    def test_messages_of_and_to_houses_that_are_down_may_be_dropped(self):
        hall = hall_with()
        hall.push(0)
        hall.stop(0)
        self.assertIsNone(hall.drop(1))
        self.assertEqual(hall.network.numbers(), [])


class StopTest(HallCase):
    def test_stopped_and_started(self):
        hall = hall_in_a_ring()
        kept = [hall.kept(number) for number in range(3)]
        messages = [hall.network.message(number) for number in hall.network]
        self.assertIsNone(hall.stop(0))
        self.assertEqual([hall.is_up(number) for number in range(3)], [False, True, True])
        self.assertEqual([hall.kept(number) for number in range(3)], kept)
        self.assertIsNone(hall.start(0))
        self.assertEqual([hall.is_up(number) for number in range(3)], [True, True, True])
        self.assertEqual([hall.kept(number) for number in range(3)], kept)
        self.assertEqual([hall.network.message(number) for number in hall.network], messages)
        self.assertEqual((hall.network.sent, len(hall.book())), (len(messages), 2))

    def test_what_is_let_go(self):
        hall = hall_in_a_ring()
        trip = hall.house(0).home.trip(ME)
        self.assertEqual((trip.next_key(), trip.mark), (B, (ME, 1, B, 1)))
        self.assertEqual(hall.house(0).shelf.waiting(A), [(OTHER, 1)])
        hall.stop(0)
        hall.start(0)
        trip = hall.house(0).home.trip(ME)
        self.assertEqual((trip.next_key(), trip.mark, trip.told(1)), (A, None, ()))
        self.assertEqual((hall.house(0).shelf.waiting(A), hall.house(0).shelf.row(A)), ([], (0, 1, (ME, 1))))
        # The other house has lost nothing.
        self.assertEqual(hall.house(1).shelf.waiting(B), [(ME, 1)])
        self.assertEqual(hall.house(1).home.trip(OTHER).mark, (OTHER, 1, A, 1))

    def test_a_house_that_is_started_is_made_from_what_was_kept(self):
        hall = hall_in_a_ring()
        kept = hall.kept(1)
        hall.stop(1)
        hall.start(1)
        again = House(1, kept=kept)
        self.assertEqual(hall.house(1).kept(), again.kept())
        self.assertEqual(hall.house(1).push(), again.push())
        self.sends(hall, hall.push(1), (1, 1, ("ask", OTHER, 1, B)))

    def test_to_stop_twice_and_to_start_twice(self):
        hall = hall_in_a_ring()
        before = shown(hall)
        self.assertIsNone(hall.start(0))
        self.assertEqual(shown(hall), before)
        hall.stop(0)
        before = shown(hall)
        self.assertIsNone(hall.stop(0))
        self.assertEqual(shown(hall), before)
        hall.start(0)
        hall.deliver(1)
        hall.deliver(2)
        before = shown(hall)
        self.assertEqual(hall.house(0).home.trip(ME).next_key(), B)
        self.assertIsNone(hall.start(0))
        self.assertEqual(shown(hall), before)

    def test_stopped_again_and_again(self):
        hall = hall_behind_one_commit()
        kept, locks = [hall.kept(number) for number in range(3)], locks_of(hall)
        for number in (0, 1, 2, 0, 1, 0):
            hall.stop(number)
            hall.start(number)
        self.assertEqual(([hall.kept(number) for number in range(3)], locks_of(hall)), (kept, locks))
        self.assertEqual(hall.trip(ME), (PROGRAM, 1, "ended"))

    def test_all_houses_down(self):
        hall = hall_behind_one_commit()
        before = (hall.book(), hall.network.numbers(), hall.transactions())
        for number in range(3):
            hall.stop(number)
        self.assertEqual([hall.is_up(number) for number in range(3)], [False] * 3)
        self.assertEqual((hall.book(), hall.network.numbers(), hall.transactions()), before)
        self.assertEqual((hall.trip(ME), hall.lock(B)), ((PROGRAM, 1, "ended"), (2, 1, None)))

    def test_messages_wait_for_a_house_that_is_down(self):
        hall = hall_with(((1, PROGRAM),))
        hall.push(1)
        hall.stop(0)
        self.unchanged(hall, Down, hall.deliver, 1)
        hall.start(0)
        self.sends(hall, hall.deliver(1), (0, 1, ("granted", OTHER, 1, A, 1, 0)))

    def test_a_message_is_delivered_though_its_sender_is_down(self):
        hall = hall_with(((1, PROGRAM),))
        hall.push(1)
        hall.stop(1)
        self.sends(hall, hall.deliver(1), (0, 1, ("granted", OTHER, 1, A, 1, 0)))
        self.unchanged(hall, Down, hall.deliver, 2)


class ErrorsTest(HallCase):
    def hall(self):
        """Return a hall with house 1 down, and the messages 1 to house 0 and 2 to house 1."""
        hall = hall_with(((0, PROGRAM), (0, BACK)))
        hall.push(0)
        hall.stop(1)
        return hall

    def test_houses_that_are_not_there(self):
        hall = self.hall()
        for number in NO_HOUSES:
            for deed in (hall.push, hall.stop, hall.start, hall.is_up, hall.house, hall.kept):
                self.unchanged(hall, Unknown, deed, number)
            self.unchanged(hall, Unknown, hall.begin, number, PROGRAM)

    def test_houses_that_are_not_there_with_all_houses_down(self):
        hall = self.hall()
        for number in range(3):
            hall.stop(number)
        for number in NO_HOUSES:
            for deed in (hall.push, hall.stop, hall.start, hall.is_up, hall.house, hall.kept):
                self.unchanged(hall, Unknown, deed, number)
            self.unchanged(hall, Unknown, hall.begin, number, PROGRAM)

    def test_messages_that_are_not_there(self):
        hall = self.hall()
        hall.push(0)
        hall.drop(1)
        for number in (0, -1, -2, 1, 5, 6, 10 ** 12, -10 ** 12):
            self.unchanged(hall, Unknown, hall.deliver, number)
            self.unchanged(hall, Unknown, hall.drop, number)
        hall = Hall(1)
        for number in (-1, 0, 1):
            self.unchanged(hall, Unknown, hall.deliver, number)
            self.unchanged(hall, Unknown, hall.drop, number)

    def test_houses_that_are_down(self):
        hall = self.hall()
        self.unchanged(hall, Down, hall.begin, 1, PROGRAM)
        self.unchanged(hall, Down, hall.push, 1)
        self.unchanged(hall, Down, hall.house, 1)
        self.unchanged(hall, Down, hall.deliver, 2)
        self.assertIs(hall.is_up(1), False)
        hall.start(1)
        self.assertEqual((hall.begin(1, PROGRAM), hall.push(1)), (OTHER, [3]))

    def test_unknown_goes_ahead_of_bad_value(self):
        hall = self.hall()
        for number in NO_HOUSES:
            for program in (None, (), (("read", (3, "a")),)):
                self.unchanged(hall, Unknown, hall.begin, number, program)

    def test_down_goes_ahead_of_bad_value(self):
        hall = self.hall()
        for program in (None, (), [], (("read", (3, "a")),)):
            self.unchanged(hall, Down, hall.begin, 1, program)
            self.unchanged(hall, BadValue, hall.begin, 0, program)

    def test_unknown_goes_ahead_of_down(self):
        hall = self.hall()
        hall.drop(2)
        # The message that would have gone to the house that is down is not there.
        self.unchanged(hall, Unknown, hall.deliver, 2)
        for number in range(3):
            hall.stop(number)
        self.unchanged(hall, Unknown, hall.deliver, 7)
        self.unchanged(hall, Down, hall.deliver, 1)
        for number in NO_HOUSES:
            self.unchanged(hall, Unknown, hall.push, number)
            self.unchanged(hall, Unknown, hall.begin, number, PROGRAM)

    def test_drop_stop_and_start_need_no_house_that_is_up(self):
        hall = self.hall()
        self.assertIsNone(hall.drop(2))
        self.assertIsNone(hall.stop(1))
        self.assertIsNone(hall.start(1))
        self.assertIs(hall.is_up(1), True)


class ReadersTest(HallCase):
    def test_house(self):
        hall = hall_behind_one_commit()
        self.assertEqual([hall.house(number).number for number in range(3)], [0, 1, 2])
        self.assertEqual(hall.house(0).home.transactions(), [ME])
        self.assertEqual(hall.house(1).shelf.row(B), (2, 1, None))

    def test_kept(self):
        hall = hall_in_a_ring()
        for number in range(3):
            kept = hall.house(number).kept()
            self.assertEqual(hall.kept(number), kept)
            hall.stop(number)
            self.assertEqual(hall.kept(number), kept)
        rows, past, trips = hall.kept(0)
        self.assertEqual((rows, past), (((A, 0, 1, (ME, 1)),), ()))
        self.assertEqual(trips, ((ME, PROGRAM, 1, None, False),))

    def test_kept_changes_while_a_house_is_up(self):
        hall = hall_with()
        self.assertEqual(hall.kept(0), ((), (), ((ME, PROGRAM, 1, None, False),)))
        hall.deliver(hall.push(0)[0])
        self.assertEqual(hall.kept(0)[0], ((A, 0, 1, (ME, 1)),))

    def test_lock(self):
        hall = hall_in_a_ring()
        self.assertEqual((hall.lock(A), hall.lock(B)), ((0, 1, (ME, 1)), (0, 1, (OTHER, 1))))
        hall.stop(0)
        hall.stop(1)
        self.assertEqual((hall.lock(A), hall.lock(B)), ((0, 1, (ME, 1)), (0, 1, (OTHER, 1))))
        self.assertIs(type(hall.lock(A)), tuple)

    def test_lock_behind_a_commit(self):
        hall = hall_behind_one_commit()
        self.assertEqual((hall.lock(A), hall.lock(B)), ((0, 1, None), (2, 1, None)))
        hall.stop(1)
        self.assertEqual(hall.lock(B), (2, 1, None))

    def test_lock_of_a_key_that_was_never_named(self):
        hall = hall_behind_one_commit()
        before = shown(hall)
        for key in ((0, "b"), (1, "a"), (2, "a"), C):
            self.assertEqual(hall.lock(key), (0, 0, None))
        self.assertEqual(shown(hall), before)
        hall.stop(2)
        hall.stop(0)
        self.assertEqual((hall.lock(C), hall.lock((0, "b"))), ((0, 0, None), (0, 0, None)))

    def test_lock_of_a_house_that_is_not_there(self):
        hall = hall_behind_one_commit()
        for house in (3, 4, 10 ** 12):
            self.unchanged(hall, Unknown, hall.lock, (house, "a"))
            self.unchanged(hall, Unknown, hall.lock, (house, "b"))

    def test_trip(self):
        hall = hall_with(((0, PROGRAM), (2, BACK)))
        self.assertEqual((hall.trip(ME), hall.trip((1, 2))), ((PROGRAM, 1, "going"), (BACK, 1, "going")))
        self.assertIs(type(hall.trip(ME)), tuple)
        states = [hall.trip(ME)[2]]
        hall.push(0)
        for number in range(1, 9):
            hall.deliver(number)
            states.append(hall.trip(ME)[2])
        self.assertEqual(states, ["going"] * 4 + ["committed"] * 4 + ["ended"])

    def test_trip_in_a_later_attempt(self):
        hall = hall_in_a_ring()
        for home in (0, 1):
            call = hall.push(home)[1]
            hall.deliver(hall.deliver(call)[0])
        self.assertEqual(hall.trip(OTHER), (BACK, 2, "going"))
        hall.stop(1)
        self.assertEqual(hall.trip(OTHER), (BACK, 2, "going"))

    def test_trip_while_its_home_is_down(self):
        hall = hall_with()
        hall.push(0)
        for number in range(1, 5):
            hall.deliver(number)
        for number in range(5, 9):
            self.assertEqual(hall.trip(ME), (PROGRAM, 1, "committed"))
            hall.stop(0)
            self.assertEqual(hall.trip(ME), (PROGRAM, 1, "committed"))
            hall.start(0)
            if number < 7:
                hall.deliver(number)
        for number in (7, 8):
            hall.deliver(number)
        hall.stop(0)
        self.assertEqual(hall.trip(ME), (PROGRAM, 1, "ended"))

    def test_trip_of_a_transaction_that_is_not_there(self):
        hall = hall_with()
        missing = ((2, 0), (1, 1), (1, 2), (1, 3), (1, 6), (10 ** 12, 10 ** 12))
        for transaction in missing:
            self.unchanged(hall, Unknown, hall.trip, transaction)
        hall.stop(0)
        hall.stop(1)
        for transaction in missing:
            self.unchanged(hall, Unknown, hall.trip, transaction)

    def test_transactions_by_age_over_all_houses(self):
        homes = (2, 0, 2, 1, 2, 0, 2)
        hall = hall_with([(home, PROGRAM) for home in homes])
        by_age = [(1, 0), (1, 1), (1, 2), (2, 0), (2, 2), (3, 2), (4, 2)]
        self.assertEqual(hall.transactions(), by_age)
        hall.stop(2)
        hall.stop(1)
        self.assertEqual(hall.transactions(), by_age)
        hall.start(2)
        hall.begin(2, PROGRAM)
        self.assertEqual(hall.transactions(), by_age + [(5, 2)])

    def test_more_than_nine_transactions_of_a_house(self):
        hall = hall_with([(1, PROGRAM)] * 11)
        self.assertEqual(hall.transactions(), [(number, 1) for number in range(1, 12)])

    def test_the_readers_change_nothing(self):
        hall = hall_in_a_ring()
        hall.stop(2)
        before = shown(hall)
        for number in range(3):
            hall.is_up(number)
            hall.kept(number)
        hall.house(0)
        hall.book()
        hall.transactions()
        for key in (A, B, C, (0, "new")):
            hall.lock(key)
        hall.trip(ME)
        self.assertEqual(shown(hall), before)


class AloneTest(HallCase):
    def test_returned_lists_may_be_changed(self):
        hall = hall_in_a_ring()
        before = shown(hall)
        hall.book().clear()
        hall.transactions().clear()
        hall.network.numbers().clear()
        hall.house(0).push().clear()
        self.assertEqual(shown(hall), before)
        numbers = hall.push(0)
        before = shown(hall)
        numbers.clear()
        self.assertEqual(shown(hall), before)
        numbers = hall.deliver(1)
        before = shown(hall)
        numbers.append(1)
        self.assertEqual(shown(hall), before)

    def test_a_book_that_was_returned_stays(self):
        hall = hall_with()
        book = hall.book()
        hall.begin(1, PROGRAM)
        self.assertEqual(book, [("began", ME, PROGRAM)])
        self.assertEqual(len(hall.book()), 2)

    def test_what_was_passed_stays(self):
        program = [("read", A)]
        hall = Hall(1)
        with self.assertRaises(BadValue):
            hall.begin(0, program)
        self.assertEqual(program, [("read", A)])

    def test_two_halls(self):
        one, two = hall_with(), hall_with()
        before = shown(two)
        one.begin(0, BACK)
        one.push(0)
        one.deliver(1)
        one.stop(1)
        one.drop(2)
        self.assertEqual(shown(two), before)
        self.assertEqual(shown(Hall(3)), shown(hall_with(())))


class PlainPartsTest(HallCase):
    def seen(self, plain):
        """Return of a plain hall what `shown` returns of a hall."""
        houses = range(plain.houses)
        kept = [plain.up[number].kept() if number in plain.up else plain.down[number] for number in houses]
        rows = sorted((row for parts in kept for row in parts[2]), key=lambda row: row[0])
        awake = [plain.up[number] for number in houses if number in plain.up]
        waiting = [[(row[0], house.shelf.waiting(row[0])) for row in house.shelf.rows()] for house in awake]
        return (
            plain.houses,
            plain.sent,
            sorted(plain.messages.items()),
            [(number in plain.up, kept[number]) for number in houses],
            [(house.kept(), house.push(), waits) for house, waits in zip(awake, waiting)],
            plain.events,
            [(row[0], (row[1], row[2], self.state(row))) for row in rows],
        )

    def state(self, row):
        if row[4]:
            return "ended"
        return "going" if row[3] is None else "committed"

    def do(self, hall, deed):
        try:
            return ("done", getattr(hall, deed[0])(*deed[1:]))
        except (Unknown, Down, BadValue) as error:
            return ("refused", type(error).__name__)

    def test_a_hall_is_its_parts(self):
        met = set()
        for seed in range(40):
            drawn = Drawn(seed)
            houses = 1 + seed % 6
            hall, plain = Hall(houses), PlainHall(houses)
            # Some keys are of houses that are not there.
            keys = keys_for(houses + 1, 8) if seed % 4 == 0 else keys_for(houses, 3)
            deeds = Deeds(drawn, hall, keys, stops=seed % 5)
            for _ in range(200):
                deed = deeds.next()
                if drawn.below(12) == 0:
                    deed = deed[:1] + (drawn.one_of((-1, 0, houses, hall.network.sent + 1, 1)),) + deed[2:]
                outcome = self.do(hall, deed)
                self.assertEqual(outcome, plain.perform(deed))
                met.add((deed[0], outcome[1] if outcome[0] == "refused" else "done"))
                self.assertEqual(shown(hall), self.seen(plain))
                for key in keys_for(houses, 8):
                    house = plain.up.get(key[0]) or House(key[0], kept=plain.down[key[0]])
                    self.assertEqual(hall.lock(key), house.shelf.row(key))
        every = {(word, end) for word in ("begin", "push", "deliver") for end in ("done", "Unknown", "Down")}
        every |= {(word, end) for word in ("drop", "stop", "start") for end in ("done", "Unknown")}
        self.assertEqual(met, every | {("begin", "BadValue")})


if __name__ == "__main__":
    unittest.main()
