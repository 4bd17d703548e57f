"""The keys of a house (points 3.1 to 3.6, and 6.4 as far as it speaks of shelves)."""

import unittest

from ringloosed.shelf import Shelf

A = (0, "a")
B = (0, "b")
T1, T2, T3, T4, T5 = (1, 4), (2, 5), (3, 6), (4, 7), (5, 8)


def ask(transaction, attempt=1, key=A):
    return ("ask", transaction, attempt, key)


def free(transaction, attempt=1, key=A):
    return ("free", transaction, attempt, key)


def finish(transaction, value, attempt=1, key=A):
    return ("finish", transaction, attempt, key, value)


def granted(transaction, turn, value=0, attempt=1, key=A):
    return (transaction[1], ("granted", transaction, attempt, key, turn, value))


def behind(transaction, turn, holder, attempt=1, holder_attempt=1, key=A):
    return (transaction[1], ("behind", transaction, attempt, key, turn, holder, holder_attempt))


def freed(transaction, attempt=1, key=A):
    return (transaction[1], ("freed", transaction, attempt, key))


def finished(transaction, attempt=1, key=A):
    return (transaction[1], ("finished", transaction, attempt, key))


def handled(*bodies):
    """Return a shelf that has handled the bodies."""
    shelf = Shelf()
    for body in bodies:
        shelf.handle(body)
    return shelf


class ShelfCase(unittest.TestCase):
    def check(self, shelf, rows, past, waiting):
        """Check all that a shelf shows of the key A and the others; `waiting` is who waits for A."""
        self.assertEqual(shelf.rows(), rows)
        self.assertEqual(shelf.past(), past)
        self.assertEqual(shelf.waiting(A), waiting)
        self.assertIs(type(shelf.rows()), tuple)
        self.assertIs(type(shelf.past()), tuple)
        self.assertIs(type(shelf.waiting(A)), list)
        for row in shelf.rows():
            self.assertEqual(shelf.row(row[0]), row[1:])
            self.assertIs(type(shelf.row(row[0])), tuple)

    def gives(self, shelf, body, answers):
        result = shelf.handle(body)
        self.assertEqual(result, answers)
        self.assertIs(type(result), list)


class ReadersTest(ShelfCase):
    def test_a_new_shelf(self):
        self.check(Shelf(), (), (), [])
        self.check(Shelf((), ()), (), (), [])

    def test_a_key_without_a_lock(self):
        shelf = Shelf()
        self.assertEqual(shelf.row(A), (0, 0, None))
        self.assertEqual(shelf.waiting(A), [])
        self.check(shelf, (), (), [])

    def test_to_look_at_a_key_makes_no_lock(self):
        shelf = handled(ask(T1, key=B))
        self.assertEqual(shelf.row(A), (0, 0, None))
        self.assertEqual(shelf.waiting(A), [])
        self.assertEqual(shelf.row((3, "a")), (0, 0, None))
        self.check(shelf, ((B, 0, 1, (T1, 1)),), (), [])

    def test_a_key_that_is_held(self):
        shelf = handled(ask(T1, 3))
        self.assertEqual(shelf.row(A), (0, 1, (T1, 3)))
        self.check(shelf, ((A, 0, 1, (T1, 3)),), (), [])

    def test_waiting_is_the_eldest_first_and_for_one_key(self):
        shelf = handled(ask(T1), ask(T4), ask(T2), ask(T3, 9), ask(T1, key=B), ask(T5, key=B))
        self.check(shelf, ((A, 0, 1, (T1, 1)), (B, 0, 1, (T1, 1))), (), [(T2, 1), (T3, 9), (T4, 1)])
        self.assertEqual(shelf.waiting(B), [(T5, 1)])

    def test_rows_are_by_ascending_keys(self):
        names = ["z", "b", "aa", "a", "ab", "c"]
        shelf = handled(*[ask(T1, key=(0, name)) for name in names])
        expected = ["a", "aa", "ab", "b", "c", "z"]
        self.assertEqual(shelf.rows(), tuple(((0, name), 0, 1, (T1, 1)) for name in expected))

    def test_past_is_by_ascending_keys_and_transactions(self):
        bodies = [free(T3, 2), free((3, 1)), free(T1, 7), free((10, 0)), free((2, 9), key=B), free(T2, key=B)]
        shelf = handled(*bodies[::-1])
        self.assertEqual(
            shelf.past(),
            ((A, T1, 7), (A, (3, 1), 1), (A, T3, 2), (A, (10, 0), 1), (B, T2, 1), (B, (2, 9), 1)),
        )

    def test_attempts_0_are_left_out(self):
        shelf = handled(ask(T1, 3), ask(T2), finish(T2, 8), finish(T3, 4))
        self.check(shelf, ((A, 0, 1, (T1, 3)),), (), [(T2, 1)])

    def test_the_value_and_the_turn_of_a_key(self):
        shelf = handled(ask(T1), finish(T1, -7), ask(T2), finish(T2, 10 ** 15))
        self.assertEqual(shelf.row(A), (10 ** 15, 2, None))

    def test_each_kind_of_message_gives_its_key_a_lock(self):
        self.check(handled(ask(T1)), ((A, 0, 1, (T1, 1)),), (), [])
        self.check(handled(free(T1)), ((A, 0, 0, None),), ((A, T1, 1),), [])
        self.check(handled(finish(T1, 9)), ((A, 0, 0, None),), (), [])

    def test_keys_do_not_touch_each_other(self):
        shelf = handled(ask(T1), ask(T2, key=B), ask(T2), ask(T1, key=B))
        self.gives(shelf, free(T1), [granted(T2, 2), freed(T1)])
        self.check(shelf, ((A, 0, 2, (T2, 1)), (B, 0, 1, (T2, 1))), ((A, T1, 1),), [])
        self.assertEqual(shelf.waiting(B), [(T1, 1)])
        self.gives(shelf, finish(T2, 4, key=B), [granted(T1, 2, 4, key=B), finished(T2, key=B)])
        self.gives(shelf, ask(T1), [])
        self.check(shelf, ((A, 0, 2, (T2, 1)), (B, 4, 2, (T1, 1))), ((A, T1, 1), (B, T2, 1)), [])

    def test_the_house_of_a_key_counts(self):
        shelf = handled(ask(T1, key=(1, "a")), ask(T2))
        self.check(shelf, ((A, 0, 1, (T2, 1)), ((1, "a"), 0, 1, (T1, 1))), (), [])


class AskTest(ShelfCase):
    def test_the_example_of_the_document(self):
        shelf = Shelf()
        self.gives(shelf, ask(T1), [(4, ("granted", (1, 4), 1, (0, "a"), 1, 0))])
        self.gives(shelf, ask(T2), [(5, ("behind", (2, 5), 1, (0, "a"), 1, (1, 4), 1))])
        answers = [(5, ("granted", (2, 5), 1, (0, "a"), 2, 8)), (4, ("finished", (1, 4), 1, (0, "a")))]
        self.gives(shelf, finish(T1, 8), answers)
        self.gives(shelf, ask(T1), [])

    def test_the_first(self):
        shelf = Shelf()
        self.gives(shelf, ask(T3, 5), [granted(T3, 1, 0, 5)])
        self.check(shelf, ((A, 0, 1, (T3, 5)),), (), [])

    def test_the_first_is_told_the_value_and_the_turn(self):
        shelf = Shelf(((A, -12, 7, None),))
        self.gives(shelf, ask(T3, 5), [granted(T3, 8, -12, 5)])

    def test_one_more(self):
        shelf = handled(ask(T3, 5))
        self.gives(shelf, ask(T4, 2), [behind(T4, 1, T3, 2, 5)])
        self.check(shelf, ((A, 0, 1, (T3, 5)),), (), [(T4, 2)])

    def test_an_elder_one_is_behind_a_younger_holder(self):
        shelf = handled(ask(T3))
        self.gives(shelf, ask(T1), [behind(T1, 1, T3)])

    def test_only_the_one_that_asks_is_told(self):
        shelf = handled(ask(T3), ask(T5), ask(T1))
        self.gives(shelf, ask(T4), [behind(T4, 1, T3)])
        self.check(shelf, ((A, 0, 1, (T3, 1)),), (), [(T1, 1), (T4, 1), (T5, 1)])

    def test_the_holder_once_more(self):
        shelf = handled(ask(T3), ask(T1))
        for _ in range(3):
            self.gives(shelf, ask(T3), [granted(T3, 1)])
            self.check(shelf, ((A, 0, 1, (T3, 1)),), (), [(T1, 1)])

    def test_one_that_waits_once_more(self):
        shelf = handled(ask(T3), ask(T1), ask(T4))
        for _ in range(3):
            self.gives(shelf, ask(T4), [behind(T4, 1, T3)])
            self.check(shelf, ((A, 0, 1, (T3, 1)),), (), [(T1, 1), (T4, 1)])

    def test_one_that_waits_once_more_is_told_of_the_holder_of_then(self):
        shelf = handled(ask(T3), ask(T4), ask(T5), finish(T3, 2))
        self.gives(shelf, ask(T5), [behind(T5, 2, T4)])

    def test_a_later_attempt_of_the_holder_when_nobody_waits(self):
        shelf = handled(ask(T3, 2))
        self.gives(shelf, ask(T3, 4), [granted(T3, 2, 0, 4)])
        self.check(shelf, ((A, 0, 2, (T3, 4)),), (), [])

    def test_a_later_attempt_of_the_holder_when_others_wait(self):
        shelf = handled(ask(T3), ask(T5), ask(T4, 7))
        self.gives(
            shelf, ask(T3, 2), [granted(T4, 2, 0, 7), behind(T3, 2, T4, 2, 7), behind(T5, 2, T4, 1, 7)]
        )
        self.check(shelf, ((A, 0, 2, (T4, 7)),), (), [(T3, 2), (T5, 1)])

    def test_a_later_attempt_of_the_holder_may_be_told_last(self):
        shelf = handled(ask(T5), ask(T4), ask(T2))
        self.gives(shelf, ask(T5, 2), [granted(T2, 2), behind(T4, 2, T2), behind(T5, 2, T2, 2)])

    def test_to_ask_with_a_later_attempt_does_not_count_as_giving_back(self):
        shelf = handled(ask(T3), ask(T3, 2))
        self.check(shelf, ((A, 0, 2, (T3, 2)),), (), [])
        self.gives(shelf, ask(T3), [behind(T3, 2, T3, 1, 2)])

    def test_an_elder_attempt_of_the_holder_waits(self):
        shelf = handled(ask(T3, 2), ask(T4))
        self.gives(shelf, ask(T3), [behind(T3, 1, T3, 1, 2)])
        self.check(shelf, ((A, 0, 1, (T3, 2)),), (), [(T3, 1), (T4, 1)])

    def test_a_later_attempt_of_one_that_waits(self):
        shelf = handled(ask(T3), ask(T4), ask(T5))
        self.gives(shelf, ask(T4, 3), [behind(T4, 1, T3, 3)])
        self.check(shelf, ((A, 0, 1, (T3, 1)),), (), [(T4, 3), (T5, 1)])

    def test_an_elder_attempt_of_one_that_waits(self):
        shelf = handled(ask(T3), ask(T4, 3))
        self.gives(shelf, ask(T4, 2), [behind(T4, 1, T3, 2)])
        self.check(shelf, ((A, 0, 1, (T3, 1)),), (), [(T4, 2), (T4, 3)])

    def test_elder_attempts_that_wait_are_freed_by_the_holder_that_asks_again(self):
        shelf = handled(ask(T4, 3), ask(T4, 2), ask(T4, 1), ask(T5))
        self.gives(shelf, ask(T4, 3), [granted(T4, 1, 0, 3)])
        self.check(shelf, ((A, 0, 1, (T4, 3)),), (), [(T5, 1)])

    def test_the_key_was_given_back(self):
        for attempt, holds in ((1, False), (2, False), (3, False), (4, True), (9, True)):
            with self.subTest(attempt=attempt):
                shelf = handled(free(T3, 3))
                self.gives(shelf, ask(T3, attempt), [granted(T3, 1, 0, attempt)] if holds else [])
                holder = (T3, attempt) if holds else None
                self.check(shelf, ((A, 0, 1 if holds else 0, holder),), ((A, T3, 3),), [])

    def test_the_key_was_given_back_and_is_held_by_somebody(self):
        for attempt, waits in ((1, False), (2, False), (3, False), (4, True), (9, True)):
            with self.subTest(attempt=attempt):
                shelf = handled(ask(T1), free(T3, 3))
                self.gives(shelf, ask(T3, attempt), [behind(T3, 1, T1, attempt)] if waits else [])
                waiting = [(T3, attempt)] if waits else []
                self.check(shelf, ((A, 0, 1, (T1, 1)),), ((A, T3, 3),), waiting)

    def test_one_for_which_it_was_given_back_frees_nothing(self):
        shelf = Shelf(((A, 5, 7, (T3, 1)),), ((A, T3, 2),))
        self.gives(shelf, ask(T3, 2), [])
        self.check(shelf, ((A, 5, 7, (T3, 1)),), ((A, T3, 2),), [])

    def test_the_key_was_given_back_by_another_transaction(self):
        shelf = handled(free(T3, 3), free((3, 7), 4))
        self.gives(shelf, ask(T1), [granted(T1, 1)])
        self.gives(shelf, ask((3, 5)), [behind((3, 5), 1, T1)])

    def test_another_key_was_given_back(self):
        shelf = handled(free(T3, 3, B))
        self.gives(shelf, ask(T3), [granted(T3, 1)])


class FreeTest(ShelfCase):
    def test_by_the_holder_when_nobody_waits(self):
        shelf = handled(ask(T3))
        self.gives(shelf, free(T3), [freed(T3)])
        self.check(shelf, ((A, 0, 1, None),), ((A, T3, 1),), [])

    def test_by_the_holder_when_one_waits(self):
        shelf = handled(ask(T3), ask(T1, 6))
        self.gives(shelf, free(T3), [granted(T1, 2, 0, 6), freed(T3)])
        self.check(shelf, ((A, 0, 2, (T1, 6)),), ((A, T3, 1),), [])

    def test_by_the_holder_when_several_wait(self):
        shelf = handled(ask(T3), ask(T5, 2), ask(T1), ask(T4))
        answers = [granted(T1, 2), behind(T4, 2, T1), behind(T5, 2, T1, 2), freed(T3)]
        self.gives(shelf, free(T3), answers)
        self.check(shelf, ((A, 0, 2, (T1, 1)),), ((A, T3, 1),), [(T4, 1), (T5, 2)])

    def test_the_value_stays_and_is_told(self):
        shelf = handled(ask(T3), finish(T3, 44), ask(T4), ask(T5))
        self.gives(shelf, free(T4), [granted(T5, 3, 44), freed(T4)])
        self.assertEqual(shelf.row(A), (44, 3, (T5, 1)))

    def test_by_one_that_waits(self):
        shelf = handled(ask(T3), ask(T4), ask(T5))
        self.gives(shelf, free(T4), [freed(T4)])
        self.check(shelf, ((A, 0, 1, (T3, 1)),), ((A, T4, 1),), [(T5, 1)])

    def test_by_somebody_that_never_asked(self):
        shelf = handled(ask(T3), ask(T4))
        self.gives(shelf, free(T5, 7), [freed(T5, 7)])
        self.check(shelf, ((A, 0, 1, (T3, 1)),), ((A, T5, 7),), [(T4, 1)])

    def test_of_a_key_that_was_never_named(self):
        shelf = Shelf()
        self.gives(shelf, free(T5, 7), [freed(T5, 7)])
        self.check(shelf, ((A, 0, 0, None),), ((A, T5, 7),), [])

    def test_for_an_attempt_ahead_of_the_one_that_holds(self):
        shelf = handled(ask(T3, 3), ask(T4))
        self.gives(shelf, free(T3, 2), [freed(T3, 2)])
        self.check(shelf, ((A, 0, 1, (T3, 3)),), ((A, T3, 2),), [(T4, 1)])
        self.gives(shelf, ask(T3, 3), [granted(T3, 1, 0, 3)])

    def test_for_an_attempt_behind_the_one_that_holds(self):
        shelf = handled(ask(T3, 3), ask(T4))
        self.gives(shelf, free(T3, 5), [granted(T4, 2), freed(T3, 5)])
        self.check(shelf, ((A, 0, 2, (T4, 1)),), ((A, T3, 5),), [])
        self.gives(shelf, ask(T3, 4), [])
        self.gives(shelf, ask(T3, 6), [behind(T3, 2, T4, 6)])

    def test_for_an_attempt_ahead_of_the_one_that_waits(self):
        shelf = handled(ask(T3), ask(T4, 3))
        self.gives(shelf, free(T4, 2), [freed(T4, 2)])
        self.check(shelf, ((A, 0, 1, (T3, 1)),), ((A, T4, 2),), [(T4, 3)])

    def test_for_an_attempt_behind_the_one_that_waits(self):
        shelf = handled(ask(T3), ask(T4, 3), ask(T4, 2))
        self.gives(shelf, free(T4, 4), [freed(T4, 4)])
        self.check(shelf, ((A, 0, 1, (T3, 1)),), ((A, T4, 4),), [])

    def test_twice(self):
        shelf = handled(ask(T3), ask(T4), ask(T5))
        self.gives(shelf, free(T3), [granted(T4, 2), behind(T5, 2, T4), freed(T3)])
        self.gives(shelf, free(T3), [freed(T3)])
        self.check(shelf, ((A, 0, 2, (T4, 1)),), ((A, T3, 1),), [(T5, 1)])

    def test_the_greatest_attempt_is_kept(self):
        shelf = Shelf()
        for attempt, kept in ((2, 2), (5, 5), (3, 5), (1, 5), (6, 6)):
            self.gives(shelf, free(T3, attempt), [freed(T3, attempt)])
            self.check(shelf, ((A, 0, 0, None),), ((A, T3, kept),), [])
        self.gives(shelf, ask(T3, 6), [])
        self.gives(shelf, ask(T3, 7), [granted(T3, 1, 0, 7)])

    def test_an_elder_attempt_that_holds_makes_room_for_a_later_one(self):
        shelf = handled(ask(T3, 2), ask(T4, 5), ask(T4, 1))
        self.gives(shelf, free(T3, 2), [granted(T4, 2), behind(T4, 2, T4, 5, 1), freed(T3, 2)])
        self.gives(shelf, free(T4, 1), [granted(T4, 3, 0, 5), freed(T4, 1)])
        self.check(shelf, ((A, 0, 3, (T4, 5)),), ((A, T3, 2), (A, T4, 1)), [])

    def test_an_attempt_that_overtook_its_free(self):
        shelf = handled(ask(T3), ask(T4), ask(T3, 2))
        self.check(shelf, ((A, 0, 2, (T4, 1)),), (), [(T3, 2)])
        self.gives(shelf, free(T3), [freed(T3)])
        self.check(shelf, ((A, 0, 2, (T4, 1)),), ((A, T3, 1),), [(T3, 2)])


class FinishTest(ShelfCase):
    def test_by_the_holder_when_nobody_waits(self):
        shelf = handled(ask(T3, 2))
        self.gives(shelf, finish(T3, -5, 2), [finished(T3, 2)])
        self.check(shelf, ((A, -5, 1, None),), ((A, T3, 2),), [])

    def test_by_the_holder_when_one_waits(self):
        shelf = handled(ask(T3), ask(T1, 6))
        self.gives(shelf, finish(T3, 9), [granted(T1, 2, 9, 6), finished(T3)])
        self.check(shelf, ((A, 9, 2, (T1, 6)),), ((A, T3, 1),), [])

    def test_by_the_holder_when_several_wait(self):
        shelf = handled(ask(T3), ask(T5, 2), ask(T1), ask(T4))
        answers = [granted(T1, 2, 9), behind(T4, 2, T1), behind(T5, 2, T1, 2), finished(T3)]
        self.gives(shelf, finish(T3, 9), answers)
        self.check(shelf, ((A, 9, 2, (T1, 1)),), ((A, T3, 1),), [(T4, 1), (T5, 2)])

    def test_twice(self):
        shelf = handled(ask(T3), ask(T4), ask(T5), finish(T3, 9))
        self.gives(shelf, finish(T3, 10), [finished(T3)])
        self.check(shelf, ((A, 9, 2, (T4, 1)),), ((A, T3, 1),), [(T5, 1)])

    def test_twice_when_nobody_waits(self):
        shelf = handled(ask(T3), finish(T3, 9))
        self.gives(shelf, finish(T3, 10), [finished(T3)])
        self.check(shelf, ((A, 9, 1, None),), ((A, T3, 1),), [])

    def test_by_somebody_that_never_held_it(self):
        shelf = handled(ask(T3), ask(T4))
        self.gives(shelf, finish(T5, 9), [])
        self.check(shelf, ((A, 0, 1, (T3, 1)),), (), [(T4, 1)])

    def test_of_a_key_that_was_never_named(self):
        shelf = Shelf()
        self.gives(shelf, finish(T5, 9), [])
        self.check(shelf, ((A, 0, 0, None),), (), [])

    def test_by_one_that_waits(self):
        shelf = handled(ask(T3), ask(T4))
        self.gives(shelf, finish(T4, 9), [])
        self.check(shelf, ((A, 0, 1, (T3, 1)),), (), [(T4, 1)])

    def test_by_another_attempt_than_the_one_that_holds(self):
        for attempt in (1, 3):
            shelf = handled(ask(T3, 2), ask(T4))
            self.gives(shelf, finish(T3, 9, attempt), [])
            self.check(shelf, ((A, 0, 1, (T3, 2)),), (), [(T4, 1)])

    def test_by_one_for_which_it_was_given_back(self):
        for attempt, answers in ((1, [finished(T3, 1)]), (2, [finished(T3, 2)]), (3, [])):
            shelf = handled(ask(T4), free(T3, 2))
            self.gives(shelf, finish(T3, 9, attempt), answers)
            self.check(shelf, ((A, 0, 1, (T4, 1)),), ((A, T3, 2),), [])

    def test_an_elder_attempt_gets_an_answer_behind_the_finish_of_a_later_one(self):
        shelf = handled(ask(T3, 2), finish(T3, 9, 2))
        self.gives(shelf, finish(T3, 8, 1), [finished(T3, 1)])
        self.gives(shelf, finish(T3, 8, 3), [])
        self.check(shelf, ((A, 9, 1, None),), ((A, T3, 2),), [])

    def test_elder_attempts_that_wait_are_gone(self):
        shelf = handled(ask(T3, 3), ask(T3, 1), ask(T3, 2))
        self.gives(shelf, finish(T3, 9, 3), [finished(T3, 3)])
        self.check(shelf, ((A, 9, 1, None),), ((A, T3, 3),), [])

    def test_a_later_attempt_that_waits_gets_the_key(self):
        shelf = handled(ask(T4), ask(T3, 2), ask(T3), ask(T5), free(T4))
        self.check(shelf, ((A, 0, 2, (T3, 1)),), ((A, T4, 1),), [(T3, 2), (T5, 1)])
        self.gives(shelf, finish(T3, 9), [granted(T3, 3, 9, 2), behind(T5, 3, T3, 1, 2), finished(T3)])

    def test_what_was_kept_for_a_later_attempt_stays(self):
        shelf = Shelf(((A, 0, 1, (T3, 1)),), ((A, T3, 4),))
        self.gives(shelf, finish(T3, 9), [finished(T3)])
        self.check(shelf, ((A, 9, 1, None),), ((A, T3, 4),), [])


class KeptTest(ShelfCase):
    def test_what_stays(self):
        shelf = handled(
            ask(T1), ask(T2), finish(T1, 6), ask(T3), free(T4, 3), ask(T5, key=B), finish(T4, 9, key=(0, "c"))
        )
        rows = ((A, 6, 2, (T2, 1)), (B, 0, 1, (T5, 1)), ((0, "c"), 0, 0, None))
        past = ((A, T1, 1), (A, T4, 3))
        self.check(shelf, rows, past, [(T3, 1)])
        self.check(Shelf(shelf.rows(), shelf.past()), rows, past, [])

    def test_nobody_waits_in_a_shelf_made_anew(self):
        shelf = handled(ask(T1), ask(T2), ask(T3))
        again = Shelf(shelf.rows(), shelf.past())
        self.gives(again, finish(T1, 7), [finished(T1)])
        self.check(again, ((A, 7, 1, None),), ((A, T1, 1),), [])
        self.gives(again, ask(T3), [granted(T3, 2, 7)])
        self.gives(again, ask(T2), [behind(T2, 2, T3)])

    def test_the_holder_stays(self):
        shelf = handled(ask(T1, 2), ask(T2))
        again = Shelf(shelf.rows(), shelf.past())
        self.gives(again, ask(T1, 2), [granted(T1, 1, 0, 2)])
        self.gives(again, ask(T3), [behind(T3, 1, T1, 1, 2)])
        self.gives(again, free(T1, 2), [granted(T3, 2), freed(T1, 2)])

    def test_what_was_given_back_stays(self):
        shelf = handled(ask(T1), free(T1), free(T2, 3), free(T2, 2))
        again = Shelf(shelf.rows(), shelf.past())
        self.gives(again, ask(T1), [])
        self.gives(again, ask(T2, 3), [])
        self.gives(again, finish(T1, 5), [finished(T1)])
        self.gives(again, ask(T2, 4), [granted(T2, 2, 0, 4)])

    def test_the_shelf_from_which_another_was_made_goes_on_by_itself(self):
        shelf = handled(ask(T1), ask(T2))
        again = Shelf(shelf.rows(), shelf.past())
        self.gives(shelf, finish(T1, 7), [granted(T2, 2, 7), finished(T1)])
        self.check(again, ((A, 0, 1, (T1, 1)),), (), [])
        again.handle(free(T1, 4))
        self.check(shelf, ((A, 7, 2, (T2, 1)),), ((A, T1, 1),), [])


class OwnThingsTest(ShelfCase):
    def test_what_was_passed_stays_as_it_was(self):
        rows, past = [(A, 5, 3, (T1, 1))], [(A, T2, 1)]
        shelf = Shelf(tuple(rows), tuple(past))
        shelf.handle(finish(T1, 9))
        shelf.handle(ask(T3, key=B))
        kept = (tuple(rows), tuple(past))
        Shelf(*kept).handle(free(T1, 9))
        self.assertEqual(kept, (((A, 5, 3, (T1, 1)),), ((A, T2, 1),)))

    def test_the_answers_may_be_changed(self):
        shelf = Shelf()
        for body in (ask(T1), ask(T2), ask(T3), ask(T1), free(T2), finish(T3, 4), finish(T1, 8), ask(T1), free(T4)):
            before = (shelf.handle(ask(T5, key=B)), shelf.waiting(B))
            answers = shelf.handle(body)
            shown = (shelf.rows(), shelf.past(), shelf.waiting(A))
            answers.append((1, body))
            answers.reverse()
            answers.clear()
            self.assertEqual((shelf.rows(), shelf.past(), shelf.waiting(A)), shown)
            self.assertEqual((shelf.handle(ask(T5, key=B)), shelf.waiting(B)), before)

    def test_the_list_of_waiting_may_be_changed(self):
        shelf = handled(ask(T1), ask(T3), ask(T2))
        shown = shelf.waiting(A)
        self.assertIsNot(shelf.waiting(A), shown)
        shown.clear()
        self.assertEqual(shelf.waiting(A), [(T2, 1), (T3, 1)])
        shelf.waiting(B).append((T1, 1))
        self.assertEqual(shelf.waiting(B), [])
        self.gives(shelf, free(T1), [granted(T2, 2), behind(T3, 2, T2), freed(T1)])

    def test_what_was_shown_stays_as_it_was(self):
        shelf = handled(ask(T1), ask(T2), free(T3))
        rows, past, row, waiting = shelf.rows(), shelf.past(), shelf.row(A), shelf.waiting(A)
        shelf.handle(finish(T1, 5))
        shelf.handle(free(T3, 4))
        self.assertEqual(rows, ((A, 0, 1, (T1, 1)),))
        self.assertEqual(past, ((A, T3, 1),))
        self.assertEqual(row, (0, 1, (T1, 1)))
        self.assertEqual(waiting, [(T2, 1)])

    def test_two_shelves_have_no_effect_on_each_other(self):
        one, other = Shelf(), Shelf()
        one.handle(ask(T1))
        one.handle(free(T2))
        self.check(other, (), (), [])
        self.gives(other, ask(T2), [granted(T2, 1)])
        other.handle(ask(T3))
        self.gives(one, finish(T1, 6), [finished(T1)])
        self.check(one, ((A, 6, 1, None),), ((A, T1, 1), (A, T2, 1)), [])
        self.check(other, ((A, 0, 1, (T2, 1)),), (), [(T3, 1)])


class Model:
    """The shelf of one key after the words of the document, without a lock of its own."""

    def __init__(self):
        self.value, self.turn, self.holder = 0, 0, None
        self.waits, self.past = set(), {}

    def grant(self, who):
        self.turn, self.holder = self.turn + 1, who
        self.waits.discard(who)

    def free(self, transaction, attempt):
        self.waits = {who for who in self.waits if who[0] != transaction or who[1] > attempt}
        if self.holder and self.holder[0] == transaction and self.holder[1] <= attempt:
            self.holder = None
            if self.waits:
                self.grant(min(self.waits))

    def give_back(self, transaction, attempt):
        self.past[transaction] = max(self.past.get(transaction, 0), attempt)

    def told(self, who):
        if who == self.holder:
            return (who[0][1], ("granted", who[0], who[1], A, self.turn, self.value))
        return (who[0][1], ("behind", who[0], who[1], A, self.turn, self.holder[0], self.holder[1]))

    def concerned(self, turn):
        if self.turn == turn:
            return []
        return [self.told(who) for who in [self.holder] + sorted(self.waits)]

    def ask(self, transaction, attempt, turn):
        if self.past.get(transaction, 0) >= attempt:
            return []
        who = (transaction, attempt)
        self.free(transaction, attempt - 1)
        if self.holder is None:
            self.grant(who)
        elif self.holder != who:
            self.waits.add(who)
        return self.concerned(turn) or [self.told(who)]

    def handle(self, body):
        word, transaction, attempt = body[:3]
        turn = self.turn
        if word == "ask":
            return self.ask(transaction, attempt, turn)
        if word == "free":
            self.give_back(transaction, attempt)
            self.free(transaction, attempt)
            return self.concerned(turn) + [freed(transaction, attempt)]
        if self.holder == (transaction, attempt):
            self.value = body[4]
            self.give_back(transaction, attempt)
            self.free(transaction, attempt)
        last = [finished(transaction, attempt)] if self.past.get(transaction, 0) >= attempt else []
        return self.concerned(turn) + last

    def state(self):
        return (self.holder, tuple(sorted(self.waits)), tuple(sorted(self.past.items())))


class EveryStateTest(ShelfCase):
    BODIES = [
        body
        for transaction in ((1, 1), (2, 0))
        for attempt in (1, 2, 3)
        for body in (ask(transaction, attempt), free(transaction, attempt), finish(transaction, attempt, attempt))
    ]

    def replayed(self, path):
        """Do the bodies of a path with a shelf and a model, which must agree behind the last one."""
        shelf, model = Shelf(), Model()
        for body in path:
            answers, expected = shelf.handle(body), model.handle(body)
        self.assertEqual(answers, expected, path)
        past = tuple((A, transaction, attempt) for transaction, attempt in sorted(model.past.items()))
        self.assertEqual(shelf.past(), past, path)
        self.assertEqual(shelf.rows(), ((A, model.value, model.turn, model.holder),), path)
        self.assertEqual(shelf.waiting(A), sorted(model.waits), path)
        return model.state()

    def test_every_message_in_every_state_that_can_be_reached(self):
        seen = {Model().state()}
        paths = [()]
        for path in paths:
            for body in self.BODIES:
                state = self.replayed(path + (body,))
                if state not in seen:
                    seen.add(state)
                    paths.append(path + (body,))
        self.assertGreater(len(seen), 100)


if __name__ == "__main__":
    unittest.main()
