"""A transaction at its home (points 5.1 to 5.7, and 6.4 as far as it speaks of trips)."""

import itertools
import unittest

from ringloosed.trip import Trip

A, B, C = (0, "a"), (1, "b"), (2, "c")
ME = (3, 2)
HOLDER = ((4, 1), 2)
OTHER = ((1, 5), 7)
PROGRAM = (("add", A, 1), ("read", B), ("store", C))
YOUNG = ((9, 9), 1, (5, "x"), 3)
YOUNGER = ((9, 9), 2, (5, "x"), 1)
ELDER = ((1, 1), 1, (5, "x"), 3)


def own(key, turn, attempt=1):
    return (ME, attempt, key, turn)


def ask(key, attempt=1):
    return (key[0], ("ask", ME, attempt, key))


def free(key, attempt):
    return (key[0], ("free", ME, attempt, key))


def finish(key, value, attempt=1):
    return (key[0], ("finish", ME, attempt, key, value))


def call(key, turn, holder=HOLDER, attempt=1):
    return (holder[0][1], ("call", holder[0], holder[1], ME, attempt, key, turn))


def going(*values, program=PROGRAM, attempt=1):
    """Return a trip that has the first keys of its program, A, B and C, with these values."""
    trip = Trip(ME, program, attempt)
    for key, value in zip((A, B, C), values):
        assert trip.granted(attempt, key, value)
    return trip


def waiting(key=A, turn=3, values=(), attempt=1):
    """Return a trip that knows that it is behind HOLDER."""
    trip = going(*values, attempt=attempt)
    assert trip.behind(attempt, key, turn, HOLDER)
    return trip


def ended():
    trip = going(5, 6, 7)
    for key in (A, B, C):
        trip.finished(1, key)
    return trip


class TripCase(unittest.TestCase):
    def check(self, trip, attempt, state, mark, sent):
        """Check what a trip shows; `sent` is what it sends now."""
        self.assertEqual((trip.attempt, trip.state, trip.mark), (attempt, state, mark))
        pushed = trip.push()
        self.assertEqual(pushed, sent)
        self.assertIs(type(pushed), list)
        self.assertIs(trip.outcome is None, state == "going")

    def unchanged(self, trip, deed):
        """Do a deed, which must change nothing that can be seen, and return its answer."""
        before = (trip.row(), trip.state, trip.mark, trip.outcome, trip.told(trip.attempt), trip.push())
        answer = deed()
        after = (trip.row(), trip.state, trip.mark, trip.outcome, trip.told(trip.attempt), trip.push())
        self.assertEqual(after, before)
        return answer


class NewTripTest(TripCase):
    def test_a_new_trip(self):
        trip = Trip(ME, PROGRAM)
        self.assertEqual((trip.transaction, trip.program), (ME, PROGRAM))
        self.check(trip, 1, "going", None, [ask(A)])
        self.assertEqual(trip.next_key(), A)
        self.assertIsNone(trip.outcome)
        self.assertEqual(trip.row(), (ME, PROGRAM, 1, None, False))
        self.assertEqual(trip.told(1), ())

    def test_the_example_of_the_document(self):
        a, b = (0, "a"), (1, "b")
        trip = Trip((1, 2), (("add", a, 1), ("read", b)))
        self.assertEqual(trip.push(), [(0, ("ask", (1, 2), 1, (0, "a")))])
        self.assertIs(trip.granted(1, a, 5), True)
        self.assertIs(trip.behind(1, b, 3, ((4, 1), 2)), True)
        ask_b = (1, ("ask", (1, 2), 1, (1, "b")))
        self.assertEqual(trip.push(), [ask_b, (1, ("call", (4, 1), 2, (1, 2), 1, (1, "b"), 3))])
        self.assertIs(trip.granted(1, b, 9), True)
        self.assertEqual((trip.state, trip.outcome), ("committed", (True, (9,))))
        finish_a, finish_b = ("finish", (1, 2), 1, (0, "a"), 6), ("finish", (1, 2), 1, (1, "b"), 9)
        self.assertEqual(trip.push(), [(0, finish_a), (1, finish_b)])


class GrantedTest(TripCase):
    def test_in_order(self):
        trip = Trip(ME, PROGRAM)
        self.assertEqual(trip.next_key(), A)
        self.assertIs(trip.granted(1, A, 5), True)
        self.assertEqual(trip.next_key(), B)
        self.check(trip, 1, "going", None, [ask(B)])
        self.assertIs(trip.granted(1, B, 6), True)
        self.assertEqual(trip.next_key(), C)
        self.check(trip, 1, "going", None, [ask(C)])
        self.assertIs(trip.granted(1, C, 7), True)
        self.check(trip, 1, "committed", None, [finish(A, 6), finish(B, 6), finish(C, 6)])

    def test_out_of_order(self):
        trip = Trip(ME, PROGRAM)
        for key in (B, C):
            self.assertIs(self.unchanged(trip, lambda: trip.granted(1, key, 6)), False)
        trip.granted(1, A, 5)
        self.assertIs(self.unchanged(trip, lambda: trip.granted(1, C, 6)), False)
        self.assertEqual(trip.next_key(), B)

    def test_the_same_key_twice(self):
        trip = going(5)
        self.assertIs(self.unchanged(trip, lambda: trip.granted(1, A, 9)), False)
        trip.granted(1, B, 6)
        trip.granted(1, C, 7)
        self.assertEqual(trip.push()[0], finish(A, 6))

    def test_a_key_that_is_not_of_the_program(self):
        trip = going(5)
        for key in ((1, "a"), (0, "b"), (3, "x")):
            self.assertIs(self.unchanged(trip, lambda: trip.granted(1, key, 9)), False)

    def test_another_attempt(self):
        trip = going(5)
        for attempt in (2, 3, 0):
            self.assertIs(self.unchanged(trip, lambda: trip.granted(attempt, B, 9)), False)
        trip = going(5, attempt=3)
        for attempt in (1, 2, 4):
            self.assertIs(self.unchanged(trip, lambda: trip.granted(attempt, B, 9)), False)
        self.assertIs(trip.granted(3, B, 9), True)

    def test_when_committed(self):
        trip = going(5, 6, 7)
        for key in (A, B, C):
            self.assertIs(self.unchanged(trip, lambda: trip.granted(1, key, 9)), False)
        again = Trip(*trip.row())
        for key in (A, B, C):
            self.assertIs(self.unchanged(again, lambda: again.granted(1, key, 9)), False)

    def test_when_ended(self):
        for trip in (ended(), Trip(*ended().row())):
            for key in (A, B, C):
                self.assertIs(self.unchanged(trip, lambda: trip.granted(1, key, 9)), False)

    def test_a_mark_ends(self):
        trip = waiting()
        self.assertIs(trip.granted(1, A, 5), True)
        self.check(trip, 1, "going", None, [ask(B)])
        self.assertEqual(trip.told(1), ())

    def test_a_mark_ends_by_the_last_key_too(self):
        trip = waiting(C, 4, (5, 6))
        trip.take(own(C, 4), (YOUNG,))
        self.assertIs(trip.granted(1, C, 7), True)
        self.check(trip, 1, "committed", None, [finish(A, 6), finish(B, 6), finish(C, 6)])
        self.assertEqual(trip.told(1), ())

    def test_marks_that_were_kept_are_forgotten(self):
        trip = waiting()
        trip.take(own(A, 3), (YOUNG,))
        trip.granted(1, A, 5)
        trip.behind(1, B, 1, HOLDER)
        self.assertEqual(trip.told(1), (own(B, 1),))

    def test_a_mark_stays_if_nothing_happens(self):
        trip = waiting()
        self.assertIs(self.unchanged(trip, lambda: trip.granted(1, B, 5)), False)
        self.assertIs(self.unchanged(trip, lambda: trip.granted(2, A, 5)), False)
        self.assertEqual(trip.mark, own(A, 3))


class CommitTest(TripCase):
    def commits(self, program, values, done, read, behind):
        """Grant the keys of a program, in order, with these values, and check what comes out."""
        trip = Trip(ME, program)
        for key, value in values:
            self.assertEqual(trip.state, "going")
            self.assertIsNone(trip.outcome)
            self.assertEqual(trip.next_key(), key)
            self.assertIs(trip.granted(1, key, value), True)
        self.check(trip, 1, "committed", None, [finish(key, value) for key, value in behind])
        self.assertEqual(trip.outcome, (done, read))
        self.assertIs(trip.outcome[0], done)
        self.assertIs(type(trip.outcome), tuple)
        self.assertIs(type(trip.outcome[1]), tuple)
        self.assertEqual(trip.row(), (ME, program, 1, (done, read, behind), False))
        self.assertIs(type(trip.row()[3][2]), tuple)

    def test_each_kind_of_step(self):
        self.commits((("read", A),), ((A, 4),), True, (4,), ((A, 4),))
        self.commits((("put", A, -8),), ((A, 4),), True, (), ((A, -8),))
        self.commits((("add", A, -8),), ((A, 4),), True, (), ((A, -4),))
        self.commits((("store", A),), ((A, 4),), True, (), ((A, 0),))
        self.commits((("need", A, 4),), ((A, 4),), True, (), ((A, 4),))
        self.commits((("need", A, 5),), ((A, 4),), False, (), ((A, 4),))

    def test_the_keys_are_in_the_order_of_the_program(self):
        for keys in itertools.permutations((A, B, C)):
            values = tuple((key, at) for at, key in enumerate(keys))
            self.commits(tuple(("read", key) for key in keys), values, True, (0, 1, 2), values)

    def test_a_key_that_is_used_several_times(self):
        program = (("read", A), ("add", A, 1), ("read", A), ("read", B), ("store", A), ("add", B, 1), ("read", A))
        self.commits(program, ((A, 10), (B, 20)), True, (10, 11, 20, 20), ((A, 20), (B, 21)))
        program = (("read", B), ("read", A), ("read", B), ("put", A, 5), ("read", A))
        self.commits(program, ((B, 1), (A, 2)), True, (1, 2, 1, 5), ((B, 1), (A, 5)))
        self.commits((("add", A, 1),) * 12, ((A, 10),), True, (), ((A, 22),))

    def test_a_program_that_is_not_done(self):
        program = (("read", A), ("add", A, -3), ("read", A), ("put", B, 7), ("need", A, 0), ("read", B), ("read", C))
        self.commits(program, ((A, 2), (B, 9), (C, 1)), False, (2, -1), ((A, 2), (B, 9), (C, 1)))
        self.commits(program, ((A, 3), (B, 9), (C, 1)), True, (3, 0, 7, 1), ((A, 0), (B, 7), (C, 1)))

    def test_a_program_that_is_not_done_locks_all_of_its_keys_ahead(self):
        program = (("need", A, 1), ("read", B))
        trip = Trip(ME, program)
        trip.granted(1, A, 0)
        self.check(trip, 1, "going", None, [ask(B)])

    def test_twelve_keys(self):
        keys = [(at, "k" * (12 - at)) for at in range(12)]
        values = tuple((key, key[0]) for key in keys)
        self.commits(tuple(("read", key) for key in keys), values, True, tuple(range(12)), values)

    def test_of_a_later_attempt(self):
        trip = going(5, 6, 7, attempt=4)
        self.check(trip, 4, "committed", None, [finish(A, 6, 4), finish(B, 6, 4), finish(C, 6, 4)])
        self.assertEqual(trip.row(), (ME, PROGRAM, 4, (True, (6,), ((A, 6), (B, 6), (C, 6))), False))


class BehindTest(TripCase):
    def test_for_the_next_key(self):
        trip = Trip(ME, PROGRAM)
        self.assertIs(trip.behind(1, A, 3, HOLDER), True)
        self.check(trip, 1, "going", own(A, 3), [ask(A), call(A, 3)])
        self.assertEqual(trip.told(1), (own(A, 3),))
        trip = going(5, attempt=2)
        self.assertIs(trip.behind(2, B, 8, OTHER), True)
        self.assertEqual(trip.mark, own(B, 8, 2))

    def test_at_a_lesser_or_the_same_turn(self):
        trip = waiting(A, 3)
        for turn in (1, 2, 3):
            self.assertIs(self.unchanged(trip, lambda: trip.behind(1, A, turn, OTHER)), False)
            self.assertIs(self.unchanged(trip, lambda: trip.behind(1, A, turn, HOLDER)), False)

    def test_at_a_greater_turn(self):
        for turn in (4, 5, 10 ** 12):
            trip = waiting(A, 3)
            self.assertIs(trip.behind(1, A, turn, OTHER), True)
            self.check(trip, 1, "going", own(A, turn), [ask(A), call(A, turn, OTHER)])

    def test_at_a_greater_turn_the_marks_that_were_kept_are_forgotten(self):
        trip = waiting(A, 3)
        trip.take(own(A, 3), (YOUNG,))
        self.assertIs(trip.behind(1, A, 3, OTHER), False)
        self.assertEqual(trip.told(1), (own(A, 3), YOUNG))
        self.assertIs(trip.behind(1, A, 4, OTHER), True)
        self.assertEqual(trip.told(1), (own(A, 4),))

    def test_another_key(self):
        for trip in (going(5), waiting(B, 3, (5,))):
            for key in (A, C, (1, "a"), (0, "b")):
                self.assertIs(self.unchanged(trip, lambda: trip.behind(1, key, 9, OTHER)), False)

    def test_another_attempt(self):
        for trip in (going(5, attempt=2), waiting(B, 3, (5,), attempt=2)):
            for attempt in (1, 3):
                self.assertIs(self.unchanged(trip, lambda: trip.behind(attempt, B, 9, OTHER)), False)

    def test_when_committed_or_ended(self):
        committed = going(5, 6, 7)
        for trip in (committed, Trip(*committed.row()), ended(), Trip(*ended().row())):
            for key in (A, B, C):
                self.assertIs(self.unchanged(trip, lambda: trip.behind(1, key, 9, OTHER)), False)

    def test_a_lesser_turn_counts_for_another_key_later(self):
        trip = waiting(A, 9)
        trip.granted(1, A, 5)
        self.assertIs(trip.behind(1, B, 1, OTHER), True)
        self.check(trip, 1, "going", own(B, 1), [ask(B), call(B, 1, OTHER)])

    def test_it_may_be_behind_an_attempt_of_its_own(self):
        trip = Trip(ME, PROGRAM, 3)
        self.assertIs(trip.behind(3, A, 5, (ME, 2)), True)
        self.assertEqual(trip.push()[-1], call(A, 5, (ME, 2), 3))


class ToldTest(TripCase):
    def test_for_its_own_attempt(self):
        trip = waiting()
        self.assertEqual(trip.told(1), (own(A, 3),))
        trip.take(own(A, 3), (YOUNGER, YOUNG, ELDER))
        self.assertEqual(trip.told(1), (own(A, 3), YOUNG, YOUNGER))
        self.assertIs(type(trip.told(1)), tuple)

    def test_for_other_attempts(self):
        trip = waiting(attempt=2)
        self.assertEqual((trip.told(1), trip.told(2), trip.told(3)), ((), (own(A, 3, 2),), ()))

    def test_without_a_mark(self):
        self.assertEqual(Trip(ME, PROGRAM).told(1), ())
        self.assertEqual(going(5).told(1), ())

    def test_when_committed_or_ended(self):
        committed = going(5, 6, 7)
        for trip in (committed, Trip(*committed.row()), ended(), Trip(*ended().row())):
            self.assertEqual(trip.told(1), ())
            self.assertEqual(trip.told(2), ())

    def test_it_changes_nothing(self):
        trip = waiting()
        trip.take(own(A, 3), (YOUNG,))
        for _ in range(3):
            self.assertEqual(self.unchanged(trip, lambda: trip.told(1)), (own(A, 3), YOUNG))


class TakeTest(TripCase):
    def test_for_its_own_mark(self):
        trip = waiting()
        self.assertIs(trip.take(own(A, 3), (YOUNG, ELDER)), False)
        self.assertEqual(trip.told(1), (own(A, 3), YOUNG))
        self.assertIs(trip.take(own(A, 3), (YOUNGER,)), False)
        self.assertEqual(trip.told(1), (own(A, 3), YOUNG, YOUNGER))
        self.check(trip, 1, "going", own(A, 3), [ask(A), call(A, 3)])

    def test_for_another_mark(self):
        trip = waiting(A, 3, attempt=2)
        others = (
            own(A, 3, 1), own(A, 3, 3), own(B, 3, 2), own((1, "a"), 3, 2), own(A, 2, 2), own(A, 4, 2),
            ((3, 3), 2, A, 3), ((2, 2), 2, A, 3),
        )
        for other in others:
            for marks in ((YOUNG,), (own(A, 3, 2),), (own(A, 3, 2), YOUNG), (other,)):
                self.assertIs(self.unchanged(trip, lambda: trip.take(other, marks)), False)
        self.assertEqual(trip.told(2), (own(A, 3, 2),))

    def test_without_a_mark(self):
        mark = own(A, 3)
        for trip in (Trip(ME, PROGRAM), going(5), going(5, 6, 7), ended(), Trip(*waiting().row())):
            self.assertIs(self.unchanged(trip, lambda: trip.take(mark, (mark,))), False)
            self.assertIs(self.unchanged(trip, lambda: trip.take(mark, (YOUNG,))), False)

    def test_a_mark_that_it_had_before(self):
        trip = waiting(A, 3)
        trip.behind(1, A, 4, HOLDER)
        self.assertIs(self.unchanged(trip, lambda: trip.take(own(A, 3), (own(A, 3),))), False)
        self.assertIs(self.unchanged(trip, lambda: trip.take(own(A, 3), (own(A, 4),))), False)
        self.assertIs(self.unchanged(trip, lambda: trip.take(own(A, 4), (own(A, 3),))), False)
        trip.granted(1, A, 5)
        self.assertIs(self.unchanged(trip, lambda: trip.take(own(A, 4), (own(A, 4),))), False)

    def test_other_marks_of_its_own_are_no_ring(self):
        trip = waiting(A, 3, attempt=2)
        for other in (own(A, 3, 1), own(A, 2, 2), own(B, 3, 2)):
            self.assertIs(self.unchanged(trip, lambda: trip.take(own(A, 3, 2), (other,))), False)

    def test_it_gives_way(self):
        trip = waiting(A, 3)
        self.assertIs(trip.take(own(A, 3), (own(A, 3),)), True)
        frees = [free(A, 1), free(B, 1), free(C, 1)]
        self.check(trip, 2, "going", None, frees + [ask(A, 2)])
        self.assertEqual(trip.next_key(), A)
        self.assertEqual((trip.told(1), trip.told(2)), ((), ()))
        self.assertEqual(trip.row(), (ME, PROGRAM, 2, None, False))

    def test_it_gives_way_with_its_mark_among_others(self):
        for marks in ((ELDER, own(A, 3)), (own(A, 3), YOUNG), (ELDER, own(A, 3), YOUNG, YOUNGER)):
            trip = waiting(A, 3)
            self.assertIs(trip.take(own(A, 3), marks), True)
            self.assertEqual((trip.attempt, trip.mark), (2, None))

    def test_giving_way_it_has_no_keys(self):
        trip = waiting(C, 3, (5, 6))
        self.assertIs(trip.take(own(C, 3), (own(C, 3),)), True)
        self.assertEqual(trip.next_key(), A)
        self.check(trip, 2, "going", None, [free(A, 1), free(B, 1), free(C, 1), ask(A, 2)])
        for key, value in ((A, 50), (B, 60), (C, 70)):
            self.assertIs(trip.granted(1, key, 1), False)
            self.assertIs(trip.granted(2, key, value), True)
        self.check(trip, 2, "committed", None, [finish(A, 51, 2), finish(B, 60, 2), finish(C, 60, 2)])

    def test_giving_way_it_forgets_the_marks_that_it_kept(self):
        trip = waiting(A, 3)
        trip.take(own(A, 3), (YOUNG,))
        trip.take(own(A, 3), (own(A, 3),))
        self.assertIs(trip.behind(2, A, 1, OTHER), True)
        self.assertEqual(trip.told(2), (own(A, 1, 2),))
        self.check(trip, 2, "going", own(A, 1, 2), [free(A, 1), free(B, 1), free(C, 1), ask(A, 2),
                                                    call(A, 1, OTHER, 2)])

    def test_giving_way_no_key_counts_as_given_back(self):
        trip = waiting(A, 3, attempt=2)
        for key in (A, B, C):
            trip.freed(1, key)
        self.assertEqual(trip.push(), [ask(A, 2), call(A, 3, HOLDER, 2)])
        self.assertIs(trip.take(own(A, 3, 2), (own(A, 3, 2),)), True)
        self.check(trip, 3, "going", None, [free(A, 2), free(B, 2), free(C, 2), ask(A, 3)])

    def test_giving_way_twice_by_the_same_marks(self):
        trip = waiting(A, 3)
        self.assertIs(trip.take(own(A, 3), (own(A, 3),)), True)
        self.assertIs(self.unchanged(trip, lambda: trip.take(own(A, 3), (own(A, 3),))), False)
        trip.behind(2, A, 3, HOLDER)
        self.assertIs(self.unchanged(trip, lambda: trip.take(own(A, 3), (own(A, 3),))), False)
        self.assertIs(self.unchanged(trip, lambda: trip.take(own(A, 3, 2), (own(A, 3),))), False)
        self.assertIs(trip.take(own(A, 3, 2), (own(A, 3, 2),)), True)
        self.assertEqual(trip.attempt, 3)


class FreedTest(TripCase):
    def test_what_counts(self):
        trip = Trip(ME, PROGRAM, 3)
        frees = {A: free(A, 2), B: free(B, 2), C: free(C, 2)}
        self.check(trip, 3, "going", None, list(frees.values()) + [ask(A, 3)])
        for key in (B, A, C):
            self.assertIsNone(trip.freed(2, key))
            del frees[key]
            self.check(trip, 3, "going", None, list(frees.values()) + [ask(A, 3)])

    def test_twice(self):
        trip = Trip(ME, PROGRAM, 3)
        trip.freed(2, B)
        self.assertIsNone(self.unchanged(trip, lambda: trip.freed(2, B)))
        self.check(trip, 3, "going", None, [free(A, 2), free(C, 2), ask(A, 3)])

    def test_other_attempts(self):
        trip = Trip(ME, PROGRAM, 3)
        for attempt in (1, 3, 4):
            self.assertIsNone(self.unchanged(trip, lambda: trip.freed(attempt, A)))

    def test_other_keys(self):
        trip = Trip(ME, PROGRAM, 3)
        for key in ((0, "b"), (1, "a"), (5, "x")):
            self.assertIsNone(self.unchanged(trip, lambda: trip.freed(2, key)))

    def test_in_the_first_attempt(self):
        trip = waiting()
        for attempt in (1, 2):
            self.assertIsNone(self.unchanged(trip, lambda: trip.freed(attempt, A)))
        trip.take(own(A, 3), (own(A, 3),))
        self.check(trip, 2, "going", None, [free(A, 1), free(B, 1), free(C, 1), ask(A, 2)])

    def test_keys_that_it_has_and_one_for_which_it_waits(self):
        trip = waiting(B, 4, (5,), 2)
        self.check(trip, 2, "going", own(B, 4, 2),
                   [free(A, 1), free(B, 1), free(C, 1), ask(B, 2), call(B, 4, HOLDER, 2)])
        trip.freed(1, C)
        trip.freed(1, A)
        self.check(trip, 2, "going", own(B, 4, 2), [free(B, 1), ask(B, 2), call(B, 4, HOLDER, 2)])

    def test_what_is_known_stays_when_keys_are_granted(self):
        trip = Trip(ME, PROGRAM, 2)
        trip.freed(1, B)
        trip.granted(2, A, 5)
        self.check(trip, 2, "going", None, [free(A, 1), free(C, 1), ask(B, 2)])

    def test_when_committed_or_ended(self):
        committed = going(5, 6, 7, attempt=2)
        for trip in (committed, Trip(*committed.row()), ended(), Trip(*ended().row())):
            for attempt in (1, 2):
                self.assertIsNone(self.unchanged(trip, lambda: trip.freed(attempt, A)))


class FinishedTest(TripCase):
    def test_what_counts(self):
        for order in itertools.permutations((A, B, C)):
            trip = going(5, 6, 7)
            left = {A: finish(A, 6), B: finish(B, 6), C: finish(C, 6)}
            for key in order[:2]:
                self.assertIs(trip.finished(1, key), False)
                del left[key]
                self.check(trip, 1, "committed", None, list(left.values()))
            self.assertIs(trip.finished(1, order[2]), True)
            self.check(trip, 1, "ended", None, [])

    def test_twice(self):
        trip = going(5, 6, 7)
        trip.finished(1, A)
        for _ in range(3):
            self.assertIs(self.unchanged(trip, lambda: trip.finished(1, A)), False)
        self.check(trip, 1, "committed", None, [finish(B, 6), finish(C, 6)])

    def test_other_attempts(self):
        trip = going(5, 6, 7, attempt=2)
        for attempt in (1, 3):
            for key in (A, B, C):
                self.assertIs(self.unchanged(trip, lambda: trip.finished(attempt, key)), False)

    def test_other_keys(self):
        trip = going(5, 6, 7)
        for key in ((0, "b"), (1, "a"), (5, "x"), (2, "b")):
            self.assertIs(self.unchanged(trip, lambda: trip.finished(1, key)), False)

    def test_while_going(self):
        for trip in (Trip(ME, PROGRAM), going(5), waiting(C, 3, (5, 6))):
            for key in (A, B, C):
                self.assertIs(self.unchanged(trip, lambda: trip.finished(1, key)), False)
        trip = going(5, 6)
        trip.finished(1, A)
        trip.granted(1, C, 7)
        self.check(trip, 1, "committed", None, [finish(A, 6), finish(B, 6), finish(C, 6)])

    def test_when_ended(self):
        for trip in (ended(), Trip(*ended().row())):
            for key in (A, B, C):
                self.assertIs(self.unchanged(trip, lambda: trip.finished(1, key)), False)

    def test_a_program_with_one_key(self):
        trip = Trip(ME, (("read", A), ("add", A, 1), ("read", A)))
        trip.granted(1, A, 5)
        self.assertIs(trip.finished(1, A), True)
        self.check(trip, 1, "ended", None, [])

    def test_a_program_that_is_not_done_ends_too(self):
        trip = Trip(ME, (("need", A, 1), ("add", A, 1)))
        trip.granted(1, A, 0)
        self.check(trip, 1, "committed", None, [finish(A, 0)])
        self.assertIs(trip.finished(1, A), True)
        self.assertEqual((trip.state, trip.outcome), ("ended", (False, ())))

    def test_the_outcome_stays_when_it_has_ended(self):
        trip = ended()
        self.assertEqual(trip.outcome, (True, (6,)))
        self.assertEqual(trip.row(), (ME, PROGRAM, 1, (True, (6,), ((A, 6), (B, 6), (C, 6))), True))


class PushTest(TripCase):
    def test_while_going_in_the_first_attempt(self):
        self.assertEqual(Trip(ME, PROGRAM).push(), [ask(A)])
        self.assertEqual(going(5).push(), [ask(B)])
        self.assertEqual(waiting(B, 3, (5,)).push(), [ask(B), call(B, 3)])

    def test_while_going_in_later_attempts(self):
        for attempt in (2, 3, 10 ** 12):
            frees = [free(A, attempt - 1), free(B, attempt - 1), free(C, attempt - 1)]
            self.assertEqual(Trip(ME, PROGRAM, attempt).push(), frees + [ask(A, attempt)])
            self.assertEqual(going(5, attempt=attempt).push(), frees + [ask(B, attempt)])
            trip = waiting(B, 3, (5,), attempt)
            self.assertEqual(trip.push(), frees + [ask(B, attempt), call(B, 3, HOLDER, attempt)])
            trip.freed(attempt - 1, B)
            self.assertEqual(trip.push(), [frees[0], frees[2], ask(B, attempt), call(B, 3, HOLDER, attempt)])

    def test_keys_are_in_the_order_of_the_program_and_each_once(self):
        program = (("read", C), ("read", A), ("add", C, 1), ("read", B), ("add", A, 2))
        trip = Trip(ME, program, 2)
        self.assertEqual(trip.push(), [free(C, 1), free(A, 1), free(B, 1), ask(C, 2)])
        for key, value in ((C, 1), (A, 2), (B, 3)):
            trip.granted(2, key, value)
        self.assertEqual(trip.push(), [finish(C, 2, 2), finish(A, 4, 2), finish(B, 3, 2)])

    def test_when_committed(self):
        self.assertEqual(going(5, 6, 7).push(), [finish(A, 6), finish(B, 6), finish(C, 6)])
        self.assertEqual(going(5, 6, 7, attempt=9).push(), [finish(A, 6, 9), finish(B, 6, 9), finish(C, 6, 9)])

    def test_when_ended(self):
        self.assertEqual(ended().push(), [])

    def test_it_changes_nothing(self):
        for trip in (Trip(ME, PROGRAM, 2), waiting(attempt=2), going(5, 6, 7), ended()):
            first = trip.push()
            self.assertEqual(self.unchanged(trip, trip.push), first)

    def test_the_call_goes_to_the_home_of_the_holder(self):
        for holder in (((4, 1), 2), ((1, 0), 9), ((7, 10 ** 12), 1)):
            trip = Trip(ME, PROGRAM)
            trip.behind(1, A, 6, holder)
            self.assertEqual(trip.push()[1], (holder[0][1], ("call", holder[0], holder[1], ME, 1, A, 6)))


class KeptTest(TripCase):
    def test_the_row_while_going(self):
        for trip in (Trip(ME, PROGRAM), going(5, 6), waiting()):
            self.assertEqual(trip.row(), (ME, PROGRAM, 1, None, False))
            self.assertIs(type(trip.row()), tuple)
            self.assertIs(trip.row()[4], False)
        self.assertEqual(waiting(attempt=6).row(), (ME, PROGRAM, 6, None, False))

    def test_the_row_when_committed(self):
        trip = going(5, 6, 7)
        row = (ME, PROGRAM, 1, (True, (6,), ((A, 6), (B, 6), (C, 6))), False)
        self.assertEqual(trip.row(), row)
        trip.finished(1, A)
        self.assertEqual(trip.row(), row)
        self.assertIs(trip.row()[4], False)
        self.assertIs(trip.row()[3][0], True)

    def test_the_row_when_ended(self):
        self.assertEqual(ended().row(), (ME, PROGRAM, 1, (True, (6,), ((A, 6), (B, 6), (C, 6))), True))
        self.assertIs(ended().row()[4], True)

    def test_made_anew_while_going(self):
        trip = waiting(B, 3, (5,), 2)
        trip.freed(1, A)
        trip.take(own(B, 3, 2), (YOUNG,))
        again = Trip(*trip.row())
        self.assertEqual((again.transaction, again.program), (ME, PROGRAM))
        self.check(again, 2, "going", None, [free(A, 1), free(B, 1), free(C, 1), ask(A, 2)])
        self.assertEqual(again.next_key(), A)
        self.assertEqual(again.told(2), ())
        self.assertEqual(again.row(), trip.row())
        self.assertIs(again.granted(2, B, 1), False)
        self.assertIs(again.granted(2, A, 50), True)
        self.assertIs(again.behind(2, B, 3, OTHER), True)
        self.assertEqual(again.told(2), (own(B, 3, 2),))

    def test_made_anew_in_the_first_attempt(self):
        again = Trip(*waiting(B, 3, (5,)).row())
        self.check(again, 1, "going", None, [ask(A)])

    def test_made_anew_when_committed(self):
        trip = going(5, 6, 7, attempt=2)
        trip.finished(2, A)
        again = Trip(*trip.row())
        self.check(again, 2, "committed", None, [finish(A, 6, 2), finish(B, 6, 2), finish(C, 6, 2)])
        self.assertEqual(again.outcome, (True, (6,)))
        self.assertEqual(again.row(), trip.row())
        for key in (B, C):
            self.assertIs(again.finished(2, key), False)
        self.assertIs(again.finished(2, A), True)
        self.check(again, 2, "ended", None, [])

    def test_made_anew_when_it_was_not_done(self):
        trip = Trip(ME, (("read", A), ("put", A, 9), ("need", B, 1)))
        trip.granted(1, A, 4)
        trip.granted(1, B, 0)
        again = Trip(*trip.row())
        self.check(again, 1, "committed", None, [finish(A, 4), finish(B, 0)])
        self.assertEqual(again.outcome, (False, (4,)))

    def test_made_anew_when_ended(self):
        again = Trip(*ended().row())
        self.check(again, 1, "ended", None, [])
        self.assertEqual(again.outcome, (True, (6,)))
        self.assertEqual(again.row(), ended().row())

    def test_made_from_written_rows(self):
        self.check(Trip(ME, PROGRAM, 1, None, False), 1, "going", None, [ask(A)])
        kept = (False, (), ((A, 1), (B, 2), (C, 3)))
        trip = Trip(ME, PROGRAM, 5, kept, False)
        self.check(trip, 5, "committed", None, [finish(A, 1, 5), finish(B, 2, 5), finish(C, 3, 5)])
        self.assertEqual(trip.outcome, (False, ()))
        self.check(Trip(ME, PROGRAM, 5, kept, True), 5, "ended", None, [])


class OwnThingsTest(TripCase):
    def test_the_list_that_is_pushed_may_be_changed(self):
        for trip in (Trip(ME, PROGRAM, 2), waiting(attempt=2), going(5, 6, 7), ended()):
            first, again = trip.push(), trip.push()
            self.assertIsNot(first, again)
            self.assertEqual(first, again)
            first.append(ask(C))
            first.reverse()
            first.clear()
            self.assertEqual(trip.push(), again)

    def test_what_was_passed_stays_as_it_was(self):
        marks = (YOUNGER, own(A, 3), YOUNG)
        trip = waiting()
        trip.take(own(A, 3), marks)
        self.assertEqual(marks, (YOUNGER, own(A, 3), YOUNG))
        kept = (True, (6,), ((A, 6), (B, 6), (C, 6)))
        trip = Trip(ME, PROGRAM, 1, kept)
        for key in (A, B, C):
            trip.finished(1, key)
        self.assertEqual(kept, (True, (6,), ((A, 6), (B, 6), (C, 6))))

    def test_two_trips_have_no_effect_on_each_other(self):
        one, other = Trip(ME, PROGRAM), Trip(ME, PROGRAM)
        one.granted(1, A, 5)
        one.behind(1, B, 4, HOLDER)
        self.check(other, 1, "going", None, [ask(A)])
        other.behind(1, A, 2, OTHER)
        one.take(own(B, 4), (YOUNG,))
        self.check(other, 1, "going", own(A, 2), [ask(A), call(A, 2, OTHER)])
        self.assertEqual(other.told(1), (own(A, 2),))
        one.take(own(B, 4), (own(B, 4),))
        one.freed(1, A)
        other.take(own(A, 2), (own(A, 2),))
        self.check(one, 2, "going", None, [free(B, 1), free(C, 1), ask(A, 2)])
        self.check(other, 2, "going", None, [free(A, 1), free(B, 1), free(C, 1), ask(A, 2)])

    def test_trips_made_from_the_same_row_have_no_effect_on_each_other(self):
        trip = going(5, 6, 7)
        one, other = Trip(*trip.row()), Trip(*trip.row())
        for key in (A, B, C):
            one.finished(1, key)
        self.assertEqual((trip.state, one.state, other.state), ("committed", "ended", "committed"))
        other.finished(1, A)
        self.assertEqual(trip.push(), [finish(A, 6), finish(B, 6), finish(C, 6)])


class Model:
    """A trip through `PROGRAM` over two keys after the words of the document; all values are 0."""

    PROGRAM = (("add", A, 1), ("read", B))
    KEYS = (A, B)

    def __init__(self):
        self.attempt, self.has, self.holder, self.mark = 1, 0, None, None
        self.kept, self.freed_keys, self.finished_keys = set(), set(), set()

    def state(self):
        if self.has < 2:
            return "going"
        return "ended" if self.finished_keys == {A, B} else "committed"

    def fits(self, attempt, key):
        return self.state() == "going" and attempt == self.attempt and key == self.KEYS[self.has]

    def granted(self, attempt, key):
        if not self.fits(attempt, key):
            return False
        self.has, self.mark, self.kept = self.has + 1, None, set()
        return True

    def behind(self, attempt, key, turn, holder):
        if not self.fits(attempt, key) or (self.mark and self.mark[3] >= turn):
            return False
        self.mark, self.holder, self.kept = (ME, attempt, key, turn), holder, set()
        return True

    def take(self, mark, marks):
        if self.mark is None or mark != self.mark:
            return False
        if mark not in marks:
            self.kept |= {other for other in marks if other[0] > ME}
            return False
        self.attempt, self.has, self.mark, self.kept, self.freed_keys = self.attempt + 1, 0, None, set(), set()
        return True

    def freed(self, attempt, key):
        if self.state() == "going" and attempt > 0 and attempt == self.attempt - 1:
            self.freed_keys.add(key)

    def finished(self, attempt, key):
        if self.state() != "committed" or attempt != self.attempt:
            return False
        self.finished_keys.add(key)
        return self.state() == "ended"

    def told(self):
        if self.state() != "going" or self.mark is None:
            return ()
        return tuple(sorted({self.mark} | self.kept))

    def push(self):
        if self.state() != "going":
            values = {A: 1, B: 0}
            return [finish(key, values[key], self.attempt) for key in self.KEYS if key not in self.finished_keys]
        sent = [free(key, self.attempt - 1) for key in self.KEYS if self.attempt > 1 and key not in self.freed_keys]
        sent.append(ask(self.KEYS[self.has], self.attempt))
        if self.mark:
            sent.append(call(self.mark[2], self.mark[3], self.holder, self.attempt))
        return sent

    def shown(self):
        return (self.attempt, self.state(), self.mark, self.told(), self.push())

    def do(self, word, arguments):
        return getattr(self, word)(*(arguments[:2] if word == "granted" else arguments))


def deeds():
    """Return deeds of three attempts: in each state some of them fit, and others do not."""
    found = []
    for attempt, key in itertools.product((1, 2, 3), (A, B)):
        found += [("granted", (attempt, key, 0)), ("freed", (attempt, key)), ("finished", (attempt, key))]
        for turn, holder in ((1, HOLDER), (1, OTHER), (2, OTHER)):
            found.append(("behind", (attempt, key, turn, holder)))
        for turn in (1, 2):
            mark = own(key, turn, attempt)
            found += [("take", (mark, (ELDER, YOUNG))), ("take", (mark, (mark, YOUNGER)))]
    return found


class EveryStateTest(TripCase):
    def replayed(self, path):
        """Do the deeds of a path with a trip and a model, which must agree behind the last one."""
        trip, model = Trip(ME, Model.PROGRAM), Model()
        for word, arguments in path:
            answer, expected = getattr(trip, word)(*arguments), model.do(word, arguments)
        self.assertIs(answer, expected, path)
        shown = (trip.attempt, trip.state, trip.mark, trip.told(trip.attempt), trip.push())
        self.assertEqual(shown, model.shown(), path)
        return shown

    def test_every_deed_in_every_state_that_three_attempts_can_reach(self):
        seen = [Model().shown()]
        paths = [()]
        for path in paths:
            for deed in deeds():
                shown = self.replayed(path + (deed,))
                if shown not in seen and shown[0] <= 3:
                    seen.append(shown)
                    paths.append(path + (deed,))
        self.assertGreater(len(seen), 100)


if __name__ == "__main__":
    unittest.main()
