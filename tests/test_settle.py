"""How a hall is settled (points 8.6 and 8.7)."""

import unittest

from ringloosed.audit import audit
from ringloosed.hall import Hall
from ringloosed.scenario import run
from ringloosed.settle import settle
from tests.helper import Deeds, Drawn, hall_with_ring, keys_for, locks_of, shown, values_in_turn

A, B, C = (0, "a"), (1, "b"), (2, "c")
ME, OTHER = (1, 0), (1, 1)
PROGRAM = (("read", A), ("add", B, 2))


def settle_by_the_letter(hall):
    """Do what point 8.6 says, word by word."""
    for number in range(hall.houses):
        if not hall.is_up(number):
            hall.start(number)
    for number in hall.network.numbers():
        hall.drop(number)
    rounds = 0
    while [name for name in hall.transactions() if hall.trip(name)[2] != "ended"]:
        rounds += 1
        for number in range(hall.houses):
            hall.push(number)
            while len(hall.network):
                least = min(hall.network.numbers())
                hall.deliver(least)
                hall.drop(least)
    return rounds


def words_of(hall):
    return [event[0] for event in hall.book()]


class SettleCase(unittest.TestCase):
    def check_settled(self, hall):
        """Check what holds behind settling (point 8.7)."""
        book = hall.book()
        names = hall.transactions()
        programs = {name: hall.trip(name)[0] for name in names}
        self.assertEqual({hall.trip(name)[2] for name in names} - {"ended"}, set())
        committed = [event[1] for event in book if event[0] == "committed"]
        self.assertEqual(sorted(committed), names)
        self.assertEqual(sorted(event[1] for event in book if event[0] == "ended"), names)
        values = values_in_turn([programs[name] for name in committed])
        locks = locks_of(hall)
        self.assertEqual({key: locks[key][0] for key in values}, values)
        self.assertEqual([key for key in locks if locks[key][2] is not None], [])
        self.assertEqual(audit(book), [])
        self.assertEqual(hall.network.numbers(), [])
        self.assertEqual([hall.is_up(number) for number in range(hall.houses)], [True] * hall.houses)


class RoundsTest(SettleCase):
    def test_the_example_of_the_document(self):
        hall = Hall(2)
        hall.begin(0, (("add", A, 1), ("add", B, 1)))
        hall.begin(1, (("read", B), ("store", A)))
        self.assertEqual(settle(hall), 1)
        self.assertEqual((hall.lock(A)[0], hall.lock(B)[0]), (1, 1))
        self.assertEqual(words_of(hall), ["began", "began", "committed", "ended", "committed", "ended"])

    def test_a_hall_in_which_nothing_was_begun(self):
        for houses in range(1, 7):
            hall = Hall(houses)
            before = shown(hall)
            self.assertEqual(settle(hall), 0)
            self.assertEqual(shown(hall), before)

    def test_a_hall_in_which_everything_has_ended(self):
        hall = Hall(2)
        hall.begin(0, PROGRAM)
        self.assertEqual(settle(hall), 1)
        before = shown(hall)
        self.assertEqual(settle(hall), 0)
        self.assertEqual(shown(hall), before)

    def test_without_a_round_houses_are_started_and_messages_are_dropped_too(self):
        hall = Hall(2)
        run(hall, [("begin", 0, PROGRAM), ("push", 0)] + [("deliver", number) for number in range(1, 9)])
        self.assertEqual((hall.trip(ME)[2], len(hall.network)), ("ended", 8))
        hall.stop(1)
        book = hall.book()
        self.assertEqual(settle(hall), 0)
        self.assertEqual((hall.network.numbers(), hall.network.sent, hall.is_up(1)), ([], 8, True))
        self.assertEqual(hall.book(), book)
        hall = Hall(3)
        hall.stop(2)
        self.assertEqual((settle(hall), hall.is_up(2)), (0, True))

    def test_one_transaction(self):
        hall = Hall(2)
        hall.begin(1, PROGRAM)
        self.assertEqual(settle(hall), 1)
        self.assertEqual(hall.book()[1:], [("committed", OTHER, 1, True, (0,)), ("ended", OTHER)])
        # ask, granted, ask, granted, finish, finish, finished, finished
        self.assertEqual((hall.network.sent, hall.network.numbers()), (8, []))
        self.check_settled(hall)

    def test_each_house_has_its_turn_in_the_order_of_the_numbers(self):
        hall = Hall(3)
        for home in (2, 0, 1):
            hall.begin(home, (("add", (home, "x"), 1),))
        self.assertEqual(settle(hall), 1)
        turns = [(word, (1, home)) for home in range(3) for word in ("committed", "ended")]
        self.assertEqual([event[:2] for event in hall.book()[3:]], turns)

    def test_a_house_is_pushed_when_the_messages_of_those_before_are_gone(self):
        hall = Hall(2)
        for home in (0, 1):
            hall.begin(home, (("add", A, 1),))
        settle(hall)
        # Pushed at once, the second one would have been told that it is behind the first one.
        self.assertEqual((hall.network.sent, hall.lock(A)), (8, (2, 2, None)))
        self.assertEqual(words_of(hall)[2:], ["committed", "ended"] * 2)

    def test_messages_are_delivered_by_their_numbers(self):
        hall = Hall(1)
        for _ in range(3):
            hall.begin(0, (("add", A, 1),))
        self.assertEqual(settle(hall), 1)
        events = [(word, (number, 0)) for word in ("committed", "ended") for number in (1, 2, 3)]
        self.assertEqual(sorted(event[:2] for event in hall.book()[3:]), events)
        twin = Hall(1)
        for _ in range(3):
            twin.begin(0, (("add", A, 1),))
        settle_by_the_letter(twin)
        self.assertEqual(shown(hall), shown(twin))

    def test_messages_that_are_there_ahead_are_not_delivered(self):
        hall = Hall(2)
        run(hall, [("begin", 0, PROGRAM), ("push", 0), ("push", 0), ("deliver", 1), ("push", 0)])
        self.assertEqual(len(hall.network), 4)
        self.assertEqual(settle(hall), 1)
        self.assertEqual(hall.network.sent, 4 + 8)
        self.check_settled(hall)

    def test_houses_that_are_down(self):
        for down in ((0,), (1,), (0, 1), (2,), (0, 1, 2)):
            hall = Hall(3)
            hall.begin(0, PROGRAM)
            hall.begin(1, (("add", A, 1), ("add", C, 1)))
            hall.deliver(hall.push(0)[0])
            for number in down:
                hall.stop(number)
            self.assertEqual(settle(hall), 1)
            self.check_settled(hall)

    def test_a_round_more_for_each_mark_that_has_to_travel(self):
        hall, _ = hall_with_ring(2, 2)
        twin, _ = hall_with_ring(2, 2)
        rounds = settle(hall)
        self.assertEqual(rounds, settle_by_the_letter(twin))
        self.assertGreater(rounds, 1)
        self.check_settled(hall)

    def test_drawn_halls_by_the_letter(self):
        many = set()
        for seed in range(60):
            houses = 1 + seed % 6
            hall, twin = Hall(houses), Hall(houses)
            keys = keys_for(houses, 2 + seed % 4)
            deeds = Deeds(Drawn(seed), hall, keys, most=10, stops=seed % 5)
            for _ in range(20 + 3 * seed):
                deed = deeds.next()
                run(hall, [deed])
                run(twin, [deed])
            rounds = settle(hall)
            many.add(rounds)
            self.assertEqual(rounds, settle_by_the_letter(twin))
            self.assertEqual(shown(hall), shown(twin))
            self.check_settled(hall)
            self.assertEqual(settle(hall), 0)
        self.assertGreater(len(many), 3)


class ManyTest(SettleCase):
    def begin_many(self, houses, keys, many, seed):
        drawn = Drawn(seed)
        hall = Hall(houses)
        for _ in range(many):
            hall.begin(drawn.below(houses), drawn.program(keys, 12))
        return hall

    def test_many_transactions_over_shared_keys(self):
        for houses in range(1, 7):
            for seed, keys in ((1, 1), (2, 2), (3, 4), (4, 8)):
                hall = self.begin_many(houses, keys_for(houses, keys), 25, seed)
                settle(hall)
                self.check_settled(hall)
                self.assertEqual(len(hall.transactions()), 25)

    def test_many_transactions_that_have_all_taken_a_key(self):
        for houses in range(1, 7):
            hall = self.begin_many(houses, keys_for(houses, 6), 20, 50 + houses)
            asks = [number for house in range(houses) for number in hall.push(house)]
            for ask in asks:
                hall.deliver(ask)
            for number in hall.network.numbers():
                hall.deliver(number)
            settle(hall)
            self.check_settled(hall)

    def test_rings(self):
        for many, houses in ((2, 1), (2, 2), (3, 3), (3, 1), (4, 2), (5, 6), (6, 6), (7, 3), (12, 4), (20, 6)):
            hall, names = hall_with_ring(many, houses)
            settle(hall)
            self.check_settled(hall)
            self.assertEqual([row[0] for row in locks_of(hall).values()], [2] * many)
            gave_way = [event[1] for event in hall.book() if event[0] == "gave way"]
            self.assertEqual(gave_way[:1], [max(names)])
            self.assertNotIn(min(names), gave_way)

    def test_a_ring_with_its_houses_down(self):
        for many, houses in ((2, 2), (3, 3), (4, 2), (6, 6)):
            hall, names = hall_with_ring(many, houses)
            for number in range(houses):
                hall.stop(number)
            settle(hall)
            self.check_settled(hall)
            gave_way = [event[1] for event in hall.book() if event[0] == "gave way"]
            self.assertEqual(gave_way[:1], [max(names)])

    def test_settled_and_begun_again(self):
        hall, _ = hall_with_ring(3, 3)
        for _ in range(3):
            settle(hall)
            self.check_settled(hall)
            hall.begin(1, PROGRAM)
            hall.begin(2, (("add", B, 1), ("add", A, 1), ("need", A, 5), ("put", A, 0)))
            hall.push(1)
        settle(hall)
        self.check_settled(hall)

    def test_programs_that_are_not_done(self):
        hall = Hall(2)
        hall.begin(0, (("add", A, 5), ("need", B, 1), ("put", B, 9)))
        hall.begin(1, (("put", B, 1), ("read", A)))
        settle(hall)
        self.check_settled(hall)
        self.assertEqual((hall.lock(A)[0], hall.lock(B)[0]), (0, 1))
        committed = [event for event in hall.book() if event[0] == "committed"]
        self.assertEqual(committed, [("committed", ME, 1, False, ()), ("committed", OTHER, 1, True, (0,))])


class AloneTest(SettleCase):
    def test_two_halls(self):
        one, two = hall_with_ring(3, 3)[0], hall_with_ring(3, 3)[0]
        before = shown(two)
        settle(one)
        self.assertEqual(shown(two), before)


if __name__ == "__main__":
    unittest.main()
