"""The lock of one key (points 2.1 to 2.5)."""

import unittest

from ringloosed.lock import Lock


def who(number, attempt=1, house=0):
    return ((number, house), attempt)


class LockCase(unittest.TestCase):
    def check(self, lock, value, turn, holder, waiting):
        """Check all that a lock shows, and the kinds of it."""
        self.assertEqual((lock.value, lock.turn, lock.holder), (value, turn, holder))
        self.assertEqual(lock.waiting(), waiting)
        self.assertIs(type(lock.waiting()), list)


class NewLockTest(LockCase):
    def test_a_new_lock(self):
        self.check(Lock(), 0, 0, None, [])

    def test_a_lock_made_with_a_value_a_turn_and_a_holder(self):
        self.check(Lock(-5, 7, who(2, 3, 1)), -5, 7, who(2, 3, 1), [])
        self.check(Lock(value=4), 4, 0, None, [])
        self.check(Lock(turn=4), 0, 4, None, [])
        self.check(Lock(holder=who(1), turn=1), 0, 1, who(1), [])

    def test_a_lock_made_with_a_turn_counts_on(self):
        lock = Lock(8, 41)
        self.assertEqual(lock.ask(who(1)), [who(1)])
        self.check(lock, 8, 42, who(1), [])

    def test_a_lock_made_with_a_holder_is_held(self):
        lock = Lock(8, 41, who(5))
        self.assertEqual(lock.ask(who(1)), [])
        self.check(lock, 8, 41, who(5), [who(1)])
        self.assertEqual(lock.finish(who(5), 9), [who(1)])
        self.check(lock, 9, 42, who(1), [])

    def test_the_example_of_the_document(self):
        lock = Lock()
        self.assertEqual(lock.ask(((2, 0), 1)), [((2, 0), 1)])
        self.assertEqual(lock.ask(((3, 0), 1)), [])
        self.assertEqual(lock.ask(((1, 1), 1)), [])
        self.assertEqual(lock.finish(((2, 0), 1), 7), [((1, 1), 1)])
        self.check(lock, 7, 2, ((1, 1), 1), [((3, 0), 1)])


class AskTest(LockCase):
    def test_for_a_free_key(self):
        lock = Lock(3)
        self.assertEqual(lock.ask(who(4, 2)), [who(4, 2)])
        self.check(lock, 3, 1, who(4, 2), [])

    def test_for_a_key_that_is_held(self):
        lock = Lock(3, 1, who(4))
        self.assertEqual(lock.ask(who(5)), [])
        self.check(lock, 3, 1, who(4), [who(5)])

    def test_an_elder_one_does_not_take_the_key_from_the_holder(self):
        lock = Lock(0, 1, who(4))
        self.assertEqual(lock.ask(who(1)), [])
        self.check(lock, 0, 1, who(4), [who(1)])

    def test_once_more_while_waiting(self):
        lock = Lock(0, 1, who(4))
        lock.ask(who(5))
        lock.ask(who(3))
        self.assertEqual(lock.ask(who(5)), [])
        self.check(lock, 0, 1, who(4), [who(3), who(5)])
        self.assertEqual(lock.free((5, 0), 1), [])
        self.check(lock, 0, 1, who(4), [who(3)])

    def test_once_more_as_the_holder(self):
        lock = Lock(6, 1, who(4))
        lock.ask(who(5))
        self.assertEqual(lock.ask(who(4)), [])
        self.check(lock, 6, 1, who(4), [who(5)])

    def test_who_waits_is_shown_the_eldest_first(self):
        lock = Lock(0, 1, who(9))
        for one in (who(3, 1, 1), who(2, 5, 1), who(10), who(3), who(2, 1, 2), who(1, 1, 3)):
            self.assertEqual(lock.ask(one), [])
        expected = [who(1, 1, 3), who(2, 5, 1), who(2, 1, 2), who(3), who(3, 1, 1), who(10)]
        self.check(lock, 0, 1, who(9), expected)

    def test_transactions_of_the_same_number_at_other_houses_are_others(self):
        lock = Lock(0, 1, who(4, 1, 0))
        self.assertEqual(lock.ask(who(4, 2, 1)), [])
        self.assertEqual(lock.ask(who(4, 3, 2)), [])
        self.check(lock, 0, 1, who(4, 1, 0), [who(4, 2, 1), who(4, 3, 2)])


class OtherAttemptsTest(LockCase):
    def test_a_later_attempt_of_the_holder_when_nobody_waits(self):
        lock = Lock(6, 1, who(4))
        self.assertEqual(lock.ask(who(4, 2)), [who(4, 2)])
        self.check(lock, 6, 2, who(4, 2), [])

    def test_a_much_later_attempt_of_the_holder(self):
        lock = Lock(6, 1, who(4, 2))
        self.assertEqual(lock.ask(who(4, 9)), [who(4, 9)])
        self.check(lock, 6, 2, who(4, 9), [])

    def test_a_later_attempt_of_the_holder_when_others_wait(self):
        lock = Lock(6, 1, who(4))
        lock.ask(who(5))
        lock.ask(who(7))
        self.assertEqual(lock.ask(who(4, 2)), [who(5)])
        self.check(lock, 6, 2, who(5), [who(4, 2), who(7)])

    def test_an_elder_attempt_of_the_holder_waits(self):
        lock = Lock(6, 1, who(4, 3))
        self.assertEqual(lock.ask(who(4, 2)), [])
        self.check(lock, 6, 1, who(4, 3), [who(4, 2)])

    def test_a_later_attempt_of_one_that_waits_takes_its_place(self):
        lock = Lock(6, 1, who(4))
        lock.ask(who(5))
        lock.ask(who(6))
        self.assertEqual(lock.ask(who(5, 2)), [])
        self.check(lock, 6, 1, who(4), [who(5, 2), who(6)])

    def test_an_elder_attempt_of_one_that_waits_waits_too(self):
        lock = Lock(6, 1, who(4))
        lock.ask(who(5, 2))
        self.assertEqual(lock.ask(who(5, 1)), [])
        self.check(lock, 6, 1, who(4), [who(5, 1), who(5, 2)])

    def test_all_elder_attempts_that_wait_go(self):
        lock = Lock(6, 1, who(4))
        for attempt in (5, 3, 2, 1):
            lock.ask(who(5, attempt))
        self.check(lock, 6, 1, who(4), [who(5, 1), who(5, 2), who(5, 3), who(5, 5)])
        self.assertEqual(lock.ask(who(5, 4)), [])
        self.check(lock, 6, 1, who(4), [who(5, 4), who(5, 5)])

    def test_the_holder_that_asks_once_more_frees_its_elder_attempts(self):
        lock = Lock(6, 1, who(4, 3))
        lock.ask(who(4, 2))
        lock.ask(who(4, 1))
        self.assertEqual(lock.ask(who(4, 3)), [])
        self.check(lock, 6, 1, who(4, 3), [])

    def test_one_that_waits_and_asks_again_frees_the_key_from_its_elder_attempt_that_holds(self):
        lock = Lock(6, 1, who(9))
        lock.ask(who(4, 2))
        lock.ask(who(4, 1))
        self.assertEqual(lock.finish(who(9), 6), [who(4, 1)])
        self.check(lock, 6, 2, who(4, 1), [who(4, 2)])
        self.assertEqual(lock.ask(who(4, 2)), [who(4, 2)])
        self.check(lock, 6, 3, who(4, 2), [])

    def test_the_key_goes_to_the_eldest_that_waits_before_the_one_that_asks(self):
        lock = Lock(6, 1, who(9))
        lock.ask(who(4, 3))
        lock.ask(who(4, 1))
        lock.ask(who(7))
        lock.finish(who(9), 6)
        self.check(lock, 6, 2, who(4, 1), [who(4, 3), who(7)])
        self.assertEqual(lock.ask(who(4, 2)), [who(4, 3)])
        self.check(lock, 6, 3, who(4, 3), [who(4, 2), who(7)])


class FreeTest(LockCase):
    def test_the_holder_when_nobody_waits(self):
        lock = Lock(6, 3, who(4))
        self.assertEqual(lock.free((4, 0), 1), [])
        self.check(lock, 6, 3, None, [])
        self.assertEqual(lock.ask(who(5)), [who(5)])
        self.check(lock, 6, 4, who(5), [])

    def test_the_holder_when_others_wait(self):
        lock = Lock(6, 3, who(1))
        for number in (8, 2, 5):
            lock.ask(who(number))
        self.assertEqual(lock.free((1, 0), 1), [who(2)])
        self.check(lock, 6, 4, who(2), [who(5), who(8)])

    def test_up_to_the_attempt(self):
        for attempt, is_freed in ((0, False), (1, False), (2, True), (3, True), (10 ** 12, True)):
            with self.subTest(attempt=attempt):
                lock = Lock(6, 3, who(4, 2))
                self.assertEqual(lock.free((4, 0), attempt), [])
                self.check(lock, 6, 3, None if is_freed else who(4, 2), [])

    def test_one_that_waits(self):
        lock = Lock(6, 3, who(1))
        lock.ask(who(5, 2))
        lock.ask(who(6, 2))
        self.assertEqual(lock.free((5, 0), 1), [])
        self.check(lock, 6, 3, who(1), [who(5, 2), who(6, 2)])
        self.assertEqual(lock.free((5, 0), 2), [])
        self.check(lock, 6, 3, who(1), [who(6, 2)])
        self.assertEqual(lock.free((6, 0), 7), [])
        self.check(lock, 6, 3, who(1), [])

    def test_several_attempts_that_wait(self):
        lock = Lock(6, 3, who(1))
        for attempt in (4, 3, 2, 1):
            lock.ask(who(5, attempt))
        self.assertEqual(lock.free((5, 0), 3), [])
        self.check(lock, 6, 3, who(1), [who(5, 4)])

    def test_one_that_holds_and_waits(self):
        lock = Lock(6, 3, who(5, 3))
        lock.ask(who(5, 1))
        lock.ask(who(5, 2))
        self.assertEqual(lock.free((5, 0), 3), [])
        self.check(lock, 6, 3, None, [])

    def test_one_that_holds_and_waits_when_another_one_waits(self):
        lock = Lock(6, 3, who(5, 3))
        lock.ask(who(5, 2))
        lock.ask(who(7))
        self.assertEqual(lock.free((5, 0), 3), [who(7)])
        self.check(lock, 6, 4, who(7), [])

    def test_one_that_holds_while_a_later_attempt_of_it_waits(self):
        lock = Lock(6, 3, who(9))
        lock.ask(who(5, 2))
        lock.ask(who(5, 1))
        lock.free((9, 0), 1)
        self.check(lock, 6, 4, who(5, 1), [who(5, 2)])
        self.assertEqual(lock.free((5, 0), 1), [who(5, 2)])
        self.check(lock, 6, 5, who(5, 2), [])

    def test_elder_attempts_that_wait_while_a_later_one_holds(self):
        lock = Lock(6, 3, who(5, 3))
        lock.ask(who(5, 1))
        lock.ask(who(5, 2))
        self.assertEqual(lock.free((5, 0), 1), [])
        self.check(lock, 6, 3, who(5, 3), [who(5, 2)])

    def test_attempt_0_changes_nothing(self):
        lock = Lock(6, 3, who(5))
        lock.ask(who(7))
        for transaction in ((5, 0), (7, 0), (8, 0)):
            self.assertEqual(lock.free(transaction, 0), [])
            self.check(lock, 6, 3, who(5), [who(7)])

    def test_a_transaction_that_neither_holds_nor_waits(self):
        lock = Lock(6, 3, who(5))
        lock.ask(who(7))
        for transaction in ((6, 0), (5, 1), (7, 1), (0, 5)):
            self.assertEqual(lock.free(transaction, 9), [])
            self.check(lock, 6, 3, who(5), [who(7)])

    def test_a_key_that_nobody_holds(self):
        lock = Lock(6, 3)
        self.assertEqual(lock.free((5, 0), 9), [])
        self.check(lock, 6, 3, None, [])


class FinishTest(LockCase):
    def test_as_the_holder_when_nobody_waits(self):
        lock = Lock(6, 3, who(5, 2))
        self.assertEqual(lock.finish(who(5, 2), -8), [])
        self.check(lock, -8, 3, None, [])

    def test_as_the_holder_when_others_wait(self):
        lock = Lock(6, 3, who(5, 2))
        for number in (9, 7, 8):
            lock.ask(who(number))
        self.assertEqual(lock.finish(who(5, 2), 0), [who(7)])
        self.check(lock, 0, 4, who(7), [who(8), who(9)])

    def test_as_somebody_else(self):
        lock = Lock(6, 3, who(5, 2))
        lock.ask(who(7))
        lock.ask(who(5, 1))
        for one in (who(7), who(8), who(5, 1), who(5, 3), who(5, 2, 1)):
            with self.subTest(one=one):
                self.assertEqual(lock.finish(one, 9), [])
                self.check(lock, 6, 3, who(5, 2), [who(5, 1), who(7)])

    def test_a_key_that_nobody_holds(self):
        lock = Lock(6, 3)
        self.assertEqual(lock.finish(who(1), 9), [])
        self.check(lock, 6, 3, None, [])

    def test_twice(self):
        lock = Lock(6, 3, who(5))
        lock.finish(who(5), 7)
        self.assertEqual(lock.finish(who(5), 8), [])
        self.check(lock, 7, 3, None, [])

    def test_elder_attempts_wait_no_longer(self):
        lock = Lock(6, 3, who(5, 3))
        lock.ask(who(5, 1))
        lock.ask(who(5, 2))
        self.assertEqual(lock.finish(who(5, 3), 7), [])
        self.check(lock, 7, 3, None, [])

    def test_a_later_attempt_that_waits_is_granted_the_key(self):
        lock = Lock(6, 3, who(9))
        lock.ask(who(5, 3))
        lock.ask(who(5, 2))
        lock.finish(who(9), 6)
        self.check(lock, 6, 4, who(5, 2), [who(5, 3)])
        self.assertEqual(lock.finish(who(5, 2), 7), [who(5, 3)])
        self.check(lock, 7, 5, who(5, 3), [])


class EldestTest(LockCase):
    def test_the_key_goes_from_the_eldest_to_the_youngest(self):
        lock = Lock(0, 1, who(5))
        for one in (who(10), who(2, 1, 1), who(2, 9, 0), who(9, 1, 3), who(1, 4, 2)):
            lock.ask(one)
        order = []
        turn = 1
        while lock.holder is not None:
            held = lock.holder
            granted = lock.finish(held, turn)
            order += granted
            turn += len(granted)
            self.assertEqual(lock.turn, turn)
        self.assertEqual(order, [who(1, 4, 2), who(2, 9, 0), who(2, 1, 1), who(9, 1, 3), who(10)])

    def test_the_order_of_asking_does_not_matter(self):
        for numbers in ((2, 3, 4), (4, 3, 2), (3, 4, 2), (3, 2, 4)):
            lock = Lock(0, 1, who(1))
            for number in numbers:
                lock.ask(who(number))
            self.assertEqual(lock.free((1, 0), 1), [who(2)])
            self.check(lock, 0, 2, who(2), [who(3), who(4)])


class OwnThingsTest(LockCase):
    def test_two_locks_have_no_effect_on_each_other(self):
        one, other = Lock(), Lock()
        one.ask(who(1))
        one.ask(who(2))
        self.check(other, 0, 0, None, [])
        self.assertEqual(other.ask(who(3)), [who(3)])
        other.ask(who(4))
        self.assertEqual(one.finish(who(1), 5), [who(2)])
        self.check(one, 5, 2, who(2), [])
        self.check(other, 0, 1, who(3), [who(4)])

    def test_the_list_of_waiting_may_be_changed(self):
        lock = Lock(0, 1, who(1))
        lock.ask(who(3))
        lock.ask(who(2))
        shown = lock.waiting()
        self.assertIsNot(lock.waiting(), shown)
        shown.clear()
        self.check(lock, 0, 1, who(1), [who(2), who(3)])
        shown = lock.waiting()
        shown.append(who(9))
        shown.reverse()
        self.check(lock, 0, 1, who(1), [who(2), who(3)])
        self.assertEqual(lock.free((1, 0), 1), [who(2)])

    def test_a_list_of_waiting_stays_as_it_was(self):
        lock = Lock(0, 1, who(1))
        lock.ask(who(2))
        shown = lock.waiting()
        lock.ask(who(3))
        lock.free((2, 0), 1)
        self.assertEqual(shown, [who(2)])

    def test_the_lists_of_the_granted_may_be_changed(self):
        for ended in (False, True):
            lock = Lock()
            lists = [lock.ask(who(1)), lock.ask(who(2)), lock.free((1, 0), 0), lock.finish(who(3), 4)]
            if ended:
                lists += [lock.free((2, 0), 1), lock.finish(who(1), 0)]
                self.check(lock, 0, 1, None, [])
            else:
                lists += [lock.finish(who(1), 8)]
                self.check(lock, 8, 2, who(2), [])
            shown = (lock.value, lock.turn, lock.holder, lock.waiting())
            for granted in lists:
                self.assertIs(type(granted), list)
                granted.append(who(9))
            self.check(lock, *shown)
            self.assertEqual(lock.free((9, 0), 1), [])
            self.assertEqual(lock.finish(who(9), 1), [])


class Model:
    """A lock after the words of points 2.2 to 2.5, one after the other."""

    def __init__(self, value, turn, holder):
        self.value, self.turn, self.holder = value, turn, holder
        self.waits = set()
        self.granted = []

    def grant(self, one):
        self.turn += 1
        self.holder = one
        self.granted.append(one)

    def free(self, transaction, attempt):
        freed = {(transaction, elder) for elder in range(1, attempt + 1)}
        self.waits -= freed
        if self.holder in freed:
            self.holder = None
            if self.waits:
                eldest = sorted(self.waits)[0]
                self.waits.remove(eldest)
                self.grant(eldest)

    def ask(self, one):
        self.free(one[0], one[1] - 1)
        if self.holder is None:
            self.grant(one)
        if self.holder != one:
            self.waits.add(one)

    def finish(self, one, value):
        if self.holder == one:
            self.value = value
            self.free(one[0], one[1])

    def do(self, word, arguments):
        """Do what a word says and return the whos to whom the key was granted."""
        self.granted = []
        getattr(self, word)(*arguments)
        return self.granted


class EveryStateTest(LockCase):
    TRANSACTIONS = ((1, 1), (2, 0))
    ATTEMPTS = (1, 2, 3)

    def deeds(self):
        found = []
        for transaction in self.TRANSACTIONS:
            found += [("free", (transaction, attempt)) for attempt in (0,) + self.ATTEMPTS]
            for attempt in self.ATTEMPTS:
                found += [("ask", ((transaction, attempt),)), ("finish", ((transaction, attempt), attempt))]
        return found

    def replayed(self, path):
        lock, model = Lock(9, 4), Model(9, 4, None)
        for word, arguments in path:
            self.assertEqual(getattr(lock, word)(*arguments), model.do(word, arguments), path)
        self.assertEqual((lock.value, lock.turn, lock.holder), (model.value, model.turn, model.holder), path)
        self.assertEqual(lock.waiting(), sorted(model.waits), path)
        return model

    def test_every_deed_in_every_state_that_can_be_reached(self):
        seen = {(None, ())}
        paths = [()]
        for path in paths:
            for deed in self.deeds():
                model = self.replayed(path + (deed,))
                state = (model.holder, tuple(sorted(model.waits)))
                if state not in seen:
                    seen.add(state)
                    paths.append(path + (deed,))
        self.assertGreater(len(seen), 100)


if __name__ == "__main__":
    unittest.main()
