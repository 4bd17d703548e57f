"""What holds over the whole program, whatever happens to messages and houses (points 0.4, 8.7 and 9.4)."""

import unittest

from ringloosed.audit import audit, replay
from ringloosed.hall import Hall
from ringloosed.scenario import perform
from ringloosed.settle import settle
from ringloosed.waits import rings, waits
from tests.helper import Deeds, Drawn, Watch, hall_with_ring, keys_for, locks_of, values_in_turn

A, B = (0, "a"), (1, "b")
ME, OTHER = (1, 0), (1, 1)


def gave_way(hall):
    return [event[1] for event in hall.book() if event[0] == "gave way"]


def numbers_of(hall, word):
    """Return the numbers of the messages of a kind that are in the network."""
    return [number for number in hall.network if hall.network.message(number)[2][0] == word]


class WholeCase(unittest.TestCase):
    def check_serial(self, hall):
        """Check that the commits are a serial order, and that everything has ended."""
        book = hall.book()
        self.assertEqual(audit(book), [])
        order = [event[1] for event in book if event[0] == "committed"]
        self.assertEqual(sorted(order), hall.transactions())
        self.assertEqual({hall.trip(name)[2] for name in order}, {"ended"} if order else set())
        outcomes, values = replay(book)
        self.assertEqual(outcomes, {event[1]: event[3:] for event in book if event[0] == "committed"})
        self.assertEqual(values, values_in_turn([hall.trip(name)[0] for name in order]))
        locks = locks_of(hall)
        self.assertEqual({key: locks[key][0] for key in values}, values)
        self.assertEqual([row[2] for row in locks.values() if row[2] is not None], [])
        if order:
            self.assertNotIn(min(order), gave_way(hall))

    def do_drawn(self, hall, deeds, many):
        """Do drawn deeds with a watch behind each; return how often each kind of event came."""
        watch = Watch(self, hall)
        met = {}
        for _ in range(many):
            perform(hall, deeds.next())
            for event in watch.check():
                met[event[0]] = met.get(event[0], 0) + 1
        return met


class DrawnDeedsTest(WholeCase):
    def add_up(self, total, met):
        for word in met:
            total[word] = total.get(word, 0) + met[word]

    def test_from_new_halls_on(self):
        total = {}
        for seed in range(100):
            houses = 1 + seed % 6
            hall = Hall(houses)
            drawn = Drawn(seed)
            deeds = Deeds(drawn, hall, keys_for(houses, 2 + seed % 3), stops=seed % 4, losses=seed % 15)
            self.add_up(total, self.do_drawn(hall, deeds, 250))
            settle(hall)
            self.check_serial(hall)
        self.assertGreater(total["gave way"], 10)
        self.assertGreater(min(total["committed"], total["ended"]), 300)

    def test_from_rings_on(self):
        total = {}
        for seed in range(80):
            many, houses = 2 + seed % 4, 1 + seed % 5
            hall, names = hall_with_ring(many, houses)
            drawn = Drawn(seed)
            keys = keys_for(houses, many)
            deeds = Deeds(drawn, hall, keys, most=many + seed % 3, stops=seed % 4, losses=seed % 9)
            self.add_up(total, self.do_drawn(hall, deeds, 250))
            self.assertIn(gave_way(hall)[:1], ([], [max(names)]))
            settle(hall)
            self.check_serial(hall)
        self.assertGreater(total["gave way"], 30)

    def test_messages_of_long_ago(self):
        # Nothing is dropped, and any message that was ever sent may come.
        for seed in range(30):
            houses = 1 + seed % 3
            hall = Hall(houses)
            drawn = Drawn(500 + seed)
            watch = Watch(self, hall)
            for place in range(300):
                if drawn.below(10) == 0 and len(hall.transactions()) < 6:
                    hall.begin(drawn.below(houses), drawn.program(keys_for(houses, 3)))
                elif drawn.below(6) == 0 or not len(hall.network):
                    hall.push(drawn.below(houses))
                elif drawn.below(40) == 0:
                    number = drawn.below(houses)
                    hall.stop(number)
                    watch.check()
                    hall.start(number)
                else:
                    hall.deliver(1 + drawn.below(hall.network.sent))
                watch.check()
            settle(hall)
            self.check_serial(hall)

    def test_settled_and_disturbed_again(self):
        for seed in range(12):
            houses = 1 + seed % 6
            hall = Hall(houses)
            for part in range(3):
                deeds = Deeds(Drawn(10 * seed + part), hall, keys_for(houses, 3), most=5 * (part + 1))
                self.do_drawn(hall, deeds, 80)
                settle(hall)
                self.check_serial(hall)


class RingsTest(WholeCase):
    def loosen(self, hall, drawn, doubled):
        """Push and deliver in a drawn order until the first one gives way; return after how many rounds."""
        watch = Watch(self, hall)
        for rounds in range(1, 40):
            for number in range(hall.houses):
                hall.push(number)
                watch.check()
            while len(hall.network):
                number = drawn.one_of(hall.network.numbers())
                hall.deliver(number)
                watch.check()
                if gave_way(hall):
                    return rounds
                if not doubled or drawn.below(3):
                    hall.drop(number)
        return None

    def test_every_ring_is_loosed_by_its_youngest(self):
        for many in range(2, 9):
            for houses in (1, 2, 3, 6):
                for seed in range(3):
                    hall, names = hall_with_ring(many, houses)
                    self.assertEqual([set(ring) for ring in rings(waits(hall))], [set(names)])
                    rounds = self.loosen(hall, Drawn(seed), seed > 0)
                    self.assertIsNotNone(rounds)
                    self.assertEqual(gave_way(hall), [max(names)])
                    self.assertEqual(rings(waits(hall)), [])
                    settle(hall)
                    self.check_serial(hall)
                    # Behind it there is no other ring in which the eldest could have given way.
                    self.assertEqual(hall.trip(min(names))[1], 1)

    def test_a_ring_stands_while_nothing_comes(self):
        hall, names = hall_with_ring(4, 4)
        before = rings(waits(hall))
        for number in range(4):
            hall.push(number)
            hall.stop(number)
        self.assertEqual(rings(waits(hall)), before)
        for number in hall.network.numbers():
            hall.drop(number)
        for number in range(4):
            hall.start(number)
        self.assertEqual(rings(waits(hall)), before)
        self.assertEqual(gave_way(hall), [])
        self.assertIsNotNone(self.loosen(hall, Drawn(7), False))
        self.assertEqual(gave_way(hall), [max(names)])

    def test_a_ring_is_loosed_though_its_homes_have_lost_their_marks(self):
        for many in (2, 3, 5):
            for house in range(3):
                hall, names = hall_with_ring(many, 3)
                watch = Watch(self, hall)
                for _ in range(many):
                    for number in range(3):
                        for sent in hall.push(number):
                            for answer in hall.deliver(sent):
                                if not gave_way(hall):
                                    hall.deliver(answer)
                                    watch.check()
                    hall.stop(house)
                    watch.check()
                    hall.start(house)
                    watch.check()
                settle(hall)
                self.assertEqual(gave_way(hall)[:1], [max(names)])
                self.check_serial(hall)

    def test_marks_that_come_late_and_twice_do_no_harm(self):
        hall, names = hall_with_ring(2, 2)
        self.assertEqual(names, [ME, OTHER])
        watch = Watch(self, hall)
        while not gave_way(hall):
            for home in (0, 1):
                hall.push(home)
            for number in hall.network.numbers():
                if not gave_way(hall):
                    hall.deliver(number)
                    watch.check()
        marks = numbers_of(hall, "marks")
        self.assertEqual(gave_way(hall), [OTHER])
        for _ in range(3):
            for number in marks + numbers_of(hall, "call") + numbers_of(hall, "behind"):
                hall.deliver(number)
                watch.check()
        self.assertEqual(gave_way(hall), [OTHER])
        self.assertEqual((hall.trip(OTHER)[1:], hall.trip(ME)[1:]), ((2, "going"), (1, "going")))

    def test_who_stands_in_no_ring_does_not_give_way(self):
        hall = Hall(2)
        hall.begin(0, (("add", A, 1), ("add", B, 1)))
        hall.deliver(hall.deliver(hall.push(0)[0])[0])
        for _ in range(4):
            hall.begin(1, (("add", A, 1),))
        for _ in range(5):
            for number in hall.push(1):
                for answer in hall.deliver(number):
                    for call in hall.deliver(answer):
                        hall.deliver(call)
        self.assertEqual((gave_way(hall), rings(waits(hall))), ([], []))
        settle(hall)
        self.assertEqual(gave_way(hall), [])
        self.check_serial(hall)


class KeptTest(WholeCase):
    def committed(self):
        """Return a hall in which ME has committed and has sent what it has to finish, and OTHER waits for A."""
        hall = Hall(2)
        hall.begin(0, (("add", A, 5), ("add", B, 7)))
        hall.begin(1, (("read", A), ("read", B)))
        ask = hall.deliver(hall.deliver(hall.push(0)[0])[0])[0]
        hall.deliver(hall.push(1)[0])
        hall.deliver(hall.deliver(ask)[0])
        self.assertEqual(hall.trip(ME)[2], "committed")
        return hall

    def test_keys_are_kept_to_the_end(self):
        hall = self.committed()
        self.assertEqual((hall.lock(A), hall.lock(B)), ((0, 1, (ME, 1)), (0, 1, (ME, 1))))
        hall.deliver(hall.push(1)[0])
        self.assertEqual(hall.lock(A), (0, 1, (ME, 1)))
        finishes = numbers_of(hall, "finish")
        hall.deliver(finishes[0])
        self.assertEqual((hall.lock(A), hall.lock(B)), ((5, 2, (OTHER, 1)), (0, 1, (ME, 1))))

    def test_a_stop_loses_nothing_that_counts(self):
        hall = self.committed()
        for number in hall.network.numbers():
            hall.drop(number)
        for number in (0, 1):
            hall.stop(number)
            hall.start(number)
        self.assertEqual((hall.lock(A), hall.lock(B)), ((0, 1, (ME, 1)), (0, 1, (ME, 1))))
        self.assertEqual((hall.trip(ME)[1:], hall.trip(OTHER)[1:]), ((1, "committed"), (1, "going")))
        # It finishes with the same values, and the other one, who waited, is granted the keys when it asks again.
        self.assertEqual(settle(hall), 1)
        self.assertEqual((hall.lock(A)[0], hall.lock(B)[0]), (5, 7))
        self.check_serial(hall)
        self.assertEqual([event[3:] for event in hall.book() if event[0] == "committed"], [(True, ()), (True, (5, 7))])

    def test_a_commit_happens_once(self):
        hall = self.committed()
        hall.stop(0)
        hall.start(0)
        watch = Watch(self, hall)
        for _ in range(2):
            for number in hall.network.numbers():
                hall.deliver(number)
                watch.check()
        settle(hall)
        self.check_serial(hall)

    def test_a_finish_that_comes_twice_does_no_harm(self):
        hall = self.committed()
        finish = numbers_of(hall, "finish")[0]
        hall.deliver(finish)
        for _ in range(3):
            before = locks_of(hall)
            hall.deliver(finish)
            self.assertEqual(locks_of(hall), before)
        self.assertEqual(hall.lock(A), (5, 2, (OTHER, 1)))
        settle(hall)
        before = locks_of(hall)
        self.check_serial(hall)
        self.assertEqual((before[A], before[B]), ((5, 2, None), (7, 2, None)))

    def test_an_ask_that_comes_late_takes_no_key(self):
        hall = Hall(1)
        hall.begin(0, (("add", A, 1),))
        asks = hall.push(0)
        for number in range(1, 5):
            hall.deliver(number)
        self.assertEqual((hall.trip(ME)[2], hall.lock(A)), ("ended", (1, 1, None)))
        for _ in range(2):
            self.assertEqual(hall.deliver(asks[0]), [])
            hall.stop(0)
            hall.start(0)
        self.assertEqual(hall.lock(A), (1, 1, None))

    def test_answers_that_are_lost_come_again(self):
        hall = self.committed()
        for number in numbers_of(hall, "finish"):
            for answer in hall.deliver(number):
                hall.drop(answer)
        self.assertEqual(hall.trip(ME)[2], "committed")
        for number in hall.push(0):
            for answer in hall.deliver(number):
                if hall.network.message(answer)[2][0] == "finished":
                    hall.deliver(answer)
        self.assertEqual((hall.trip(ME)[2], hall.lock(A)[:2], hall.lock(B)[0]), ("ended", (5, 2), 7))


if __name__ == "__main__":
    unittest.main()
