"""The home of a house (points 6.1 and 6.2)."""

import unittest

from ringloosed.errors import BadValue, Down, LoosedError, Unknown
from ringloosed.home import Home
from ringloosed.shelf import Shelf

A, B, C = (0, "a"), (1, "b"), (2, "c")
PROGRAM = (("read", A), ("add", B, 2))
ME = (1, 5)
NOBODY = (2, 5)
HOLDER = ((2, 7), 3)
CALLER = (4, 8)
YOUNG = ((9, 9), 1, (6, "x"), 3)
OWN = (ME, 1, A, 4)


def ask(key, attempt=1, transaction=ME):
    return (key[0], ("ask", transaction, attempt, key))


def free(key, attempt, transaction=ME):
    return (key[0], ("free", transaction, attempt, key))


def finish(key, value, attempt=1, transaction=ME):
    return (key[0], ("finish", transaction, attempt, key, value))


def call(mark, holder=HOLDER):
    return (holder[0][1], ("call", holder[0], holder[1]) + mark)


def granted(key, value, attempt=1, turn=1, transaction=ME):
    return ("granted", transaction, attempt, key, turn, value)


def behind(key, turn, holder=HOLDER, attempt=1, transaction=ME):
    return ("behind", transaction, attempt, key, turn, holder[0], holder[1])


def freed(key, attempt, transaction=ME):
    return ("freed", transaction, attempt, key)


def finished(key, attempt=1, transaction=ME):
    return ("finished", transaction, attempt, key)


def called(attempt=1, caller=(CALLER, 6, B, 9), transaction=ME):
    return ("call", transaction, attempt) + caller


def marks(mark, *told):
    return ("marks",) + mark + (told,)


def home_with(*bodies, program=PROGRAM):
    """Return the home of house 5 with the one transaction ME, behind the bodies."""
    home = Home(5)
    home.begin(program)
    for body in bodies:
        home.handle(body)
    return home


class HomeCase(unittest.TestCase):
    def gives(self, home, body, sent, event=None):
        result = home.handle(body)
        self.assertEqual(result, (sent, event))
        self.assertIs(type(result), tuple)
        self.assertIs(type(result[0]), list)

    def shown(self, home):
        trips = [home.trip(transaction) for transaction in home.transactions()]
        marked = [(trip.state, trip.attempt, trip.mark, trip.told(trip.attempt)) for trip in trips]
        return (home.house, home.rows(), home.push(), marked)

    def nothing(self, home, body):
        """Let a home handle a body by which nothing happens."""
        before = self.shown(home)
        self.gives(home, body, [])
        self.assertEqual(self.shown(home), before)


class BeginTest(HomeCase):
    def test_a_new_home(self):
        home = Home(5)
        self.assertEqual((home.house, home.transactions(), home.rows(), home.push()), (5, [], (), []))
        self.assertIs(type(home.transactions()), list)
        self.assertIs(type(home.rows()), tuple)
        self.assertIs(type(home.push()), list)

    def test_names_in_the_order_of_their_begin(self):
        home = Home(5)
        for number in range(1, 13):
            self.assertEqual(home.begin((("put", A, number),)), (number, 5))
        self.assertEqual(home.transactions(), [(number, 5) for number in range(1, 13)])
        rows = tuple(((number, 5), (("put", A, number),), 1, None, False) for number in range(1, 13))
        self.assertEqual(home.rows(), rows)

    def test_names_of_other_houses(self):
        for house in (0, 1, 10 ** 12):
            home = Home(house)
            self.assertEqual((home.begin(PROGRAM), home.begin(PROGRAM)), ((1, house), (2, house)))
            self.assertEqual(home.house, house)

    def test_the_same_program_again_is_another_transaction(self):
        home = Home(5)
        home.begin(PROGRAM)
        home.begin(PROGRAM)
        home.handle(granted(A, 1))
        self.assertEqual(home.push(), [ask(B), ask(A, 1, (2, 5))])

    def test_a_name_is_not_used_again(self):
        home = home_with(granted(A, 1), granted(B, 2), finished(A), finished(B))
        self.assertEqual(home.trip(ME).state, "ended")
        self.assertEqual(home.begin(PROGRAM), (2, 5))
        self.assertEqual(home.transactions(), [(1, 5), (2, 5)])

    def test_trip(self):
        home = home_with()
        home.begin((("read", C),))
        trip = home.trip(ME)
        self.assertEqual((trip.transaction, trip.program, trip.attempt, trip.state), (ME, PROGRAM, 1, "going"))
        self.assertEqual(home.trip((2, 5)).row(), ((2, 5), (("read", C),), 1, None, False))

    def test_trip_shows_what_has_come(self):
        home = home_with(granted(A, 3), behind(B, 2))
        self.assertEqual((home.trip(ME).next_key(), home.trip(ME).mark), (B, (ME, 1, B, 2)))

    def test_trip_of_a_transaction_that_is_not_there(self):
        home = home_with()
        before = self.shown(home)
        for transaction in ((2, 5), (1, 4), (5, 1), (1, 0), (10 ** 12, 5)):
            with self.assertRaises(Unknown) as caught:
                home.trip(transaction)
            self.assertIsInstance(caught.exception, LoosedError)
            self.assertNotIsInstance(caught.exception, (BadValue, Down))
        with self.assertRaises(Unknown):
            Home(5).trip(ME)
        self.assertEqual(self.shown(home), before)
        self.assertEqual(home.begin(PROGRAM), (2, 5))


class GrantedTest(HomeCase):
    def test_the_trip_has_the_key_by_this(self):
        home = home_with()
        self.gives(home, granted(A, 3), [ask(B)])
        self.assertEqual(home.trip(ME).next_key(), B)

    def test_in_a_later_attempt_what_was_given_back_is_sent_too(self):
        home = home_with(behind(A, 4), marks(OWN, OWN), freed(B, 1))
        self.gives(home, granted(A, 3, 2), [free(A, 1), ask(B, 2)])

    def test_the_trip_commits_by_this(self):
        home = home_with(granted(A, 3))
        self.gives(home, granted(B, 4), [finish(A, 3), finish(B, 6)], ("committed", ME, 1, True, (3,)))
        self.assertEqual(home.trip(ME).state, "committed")

    def test_the_trip_commits_and_is_not_done(self):
        program = (("read", A), ("read", B), ("add", A, 1), ("need", B, 5), ("read", A))
        home = home_with(granted(A, 3), program=program)
        self.gives(home, granted(B, 4), [finish(A, 3), finish(B, 4)], ("committed", ME, 1, False, (3, 4)))
        home = home_with(granted(A, 3), program=program)
        self.gives(home, granted(B, 5), [finish(A, 4), finish(B, 5)], ("committed", ME, 1, True, (3, 5, 4)))

    def test_the_kinds_of_what_the_event_holds(self):
        home = home_with(program=(("put", A, 1),))
        event = home.handle(granted(A, 0))[1]
        self.assertEqual(event, ("committed", ME, 1, True, ()))
        self.assertIs(type(event), tuple)
        self.assertIs(event[3], True)
        self.assertIs(type(event[4]), tuple)
        home = home_with(program=(("need", A, 1),))
        self.assertIs(home.handle(granted(A, 0))[1][3], False)

    def test_the_trip_commits_in_a_later_attempt(self):
        home = home_with(behind(A, 4), marks(OWN, OWN), granted(A, 3, 2))
        self.gives(home, granted(B, 4, 2), [finish(A, 3, 2), finish(B, 6, 2)], ("committed", ME, 2, True, (3,)))

    def test_without_an_effect(self):
        self.nothing(home_with(), granted(B, 4))
        self.nothing(home_with(), granted(A, 4, 2))
        self.nothing(home_with(), granted(C, 4))
        self.nothing(home_with(granted(A, 3)), granted(A, 9))
        self.nothing(home_with(granted(A, 3), granted(B, 4)), granted(B, 4))
        self.nothing(home_with(granted(A, 3), granted(B, 4), finished(A), finished(B)), granted(B, 4))
        self.nothing(home_with(behind(A, 4), marks(OWN, OWN)), granted(A, 9))

    def test_a_mark_ends_and_is_called_for_no_longer(self):
        home = home_with(behind(A, 4))
        self.gives(home, granted(A, 3), [ask(B)])
        self.gives(home, called(), [])


class BehindTest(HomeCase):
    def test_a_mark_begins_by_this(self):
        home = home_with()
        self.gives(home, behind(A, 4), [ask(A), call(OWN)])
        self.assertEqual(home.trip(ME).mark, OWN)

    def test_a_mark_with_a_greater_turn_begins_by_this(self):
        home = home_with(behind(A, 4))
        other = ((9, 1), 2)
        self.gives(home, behind(A, 5, other), [ask(A), call((ME, 1, A, 5), other)])

    def test_in_a_later_attempt_what_was_given_back_is_sent_first(self):
        home = home_with(behind(A, 4), marks(OWN, OWN), freed(A, 1))
        self.gives(home, behind(A, 4, attempt=2), [free(B, 1), ask(A, 2), call((ME, 2, A, 4))])

    def test_without_an_effect(self):
        self.nothing(home_with(), behind(B, 4))
        self.nothing(home_with(), behind(A, 4, attempt=2))
        self.nothing(home_with(behind(A, 4)), behind(A, 4))
        self.nothing(home_with(behind(A, 4)), behind(A, 4, ((9, 1), 2)))
        self.nothing(home_with(behind(A, 4)), behind(A, 3, ((9, 1), 2)))
        self.nothing(home_with(granted(A, 3)), behind(A, 4))
        self.nothing(home_with(granted(A, 3), granted(B, 4)), behind(B, 4))
        self.nothing(home_with(granted(A, 3), granted(B, 4), finished(A), finished(B)), behind(B, 4))


class FreedTest(HomeCase):
    def test_with_an_effect(self):
        home = home_with(behind(A, 4), marks(OWN, OWN))
        self.gives(home, freed(A, 1), [])
        self.assertEqual(home.push(), [free(B, 1), ask(A, 2)])
        self.gives(home, freed(B, 1), [])
        self.assertEqual(home.push(), [ask(A, 2)])

    def test_without_an_effect(self):
        self.nothing(home_with(), freed(A, 1))
        home = home_with(behind(A, 4), marks(OWN, OWN))
        self.nothing(home, freed(A, 2))
        self.nothing(home, freed(A, 3))
        self.nothing(home_with(granted(A, 3), granted(B, 4)), freed(A, 1))
        self.nothing(home_with(granted(A, 3), granted(B, 4), finished(A), finished(B)), freed(A, 1))


class FinishedTest(HomeCase):
    def test_with_an_effect(self):
        home = home_with(granted(A, 3), granted(B, 4))
        self.gives(home, finished(B), [])
        self.assertEqual(home.push(), [finish(A, 3)])
        self.gives(home, finished(A), [], ("ended", ME))
        self.assertEqual((home.push(), home.trip(ME).state), ([], "ended"))

    def test_in_a_later_attempt(self):
        home = home_with(behind(A, 4), marks(OWN, OWN), granted(A, 3, 2), granted(B, 4, 2), finished(A, 2))
        self.nothing(home, finished(B, 1))
        self.gives(home, finished(B, 2), [], ("ended", ME))

    def test_without_an_effect(self):
        self.nothing(home_with(), finished(A))
        self.nothing(home_with(granted(A, 3)), finished(A))
        committed = home_with(granted(A, 3), granted(B, 4))
        self.nothing(committed, finished(C))
        self.nothing(committed, finished(A, 2))
        self.nothing(home_with(granted(A, 3), granted(B, 4), finished(A)), finished(A))

    def test_it_has_ended_only_once(self):
        home = home_with(granted(A, 3), granted(B, 4), finished(A), finished(B))
        self.nothing(home, finished(A))
        self.nothing(home, finished(B))


class CallTest(HomeCase):
    def test_the_marks_are_sent_to_the_home_of_the_caller(self):
        home = home_with(behind(A, 4))
        self.gives(home, called(), [(8, ("marks", CALLER, 6, B, 9, (OWN,)))])
        caller = ((1, 0), 1, (3, "zz"), 10 ** 12)
        self.gives(home, called(caller=caller), [(0, ("marks", (1, 0), 1, (3, "zz"), 10 ** 12, (OWN,)))])

    def test_all_marks_that_it_tells_are_sent(self):
        home = home_with(behind(A, 4), marks(OWN, ((1, 1), 1, C, 1), YOUNG))
        sent = [(8, ("marks", CALLER, 6, B, 9, (OWN, YOUNG)))]
        self.gives(home, called(), sent)
        self.gives(home, called(), sent)

    def test_it_changes_nothing(self):
        home = home_with(behind(A, 4), marks(OWN, YOUNG))
        before = self.shown(home)
        home.handle(called())
        self.assertEqual(self.shown(home), before)

    def test_of_itself(self):
        home = home_with(behind(A, 4))
        self.gives(home, called(caller=OWN), [(5, ("marks", ME, 1, A, 4, (OWN,)))])

    def test_without_an_effect(self):
        self.nothing(home_with(), called())
        self.nothing(home_with(granted(A, 3)), called())
        self.nothing(home_with(behind(A, 4)), called(2))
        self.nothing(home_with(granted(A, 3), granted(B, 4)), called())
        self.nothing(home_with(granted(A, 3), granted(B, 4), finished(A), finished(B)), called())
        later = home_with(behind(A, 4), marks(OWN, OWN), behind(A, 4, attempt=2))
        self.nothing(later, called(1))
        self.nothing(later, called(3))
        self.gives(later, called(2), [(8, ("marks", CALLER, 6, B, 9, ((ME, 2, A, 4),)))])


class MarksTest(HomeCase):
    def test_the_trip_keeps_them(self):
        home = home_with(behind(A, 4))
        self.gives(home, marks(OWN, YOUNG), [])
        self.assertEqual(home.trip(ME).told(1), (OWN, YOUNG))

    def test_the_trip_gives_way(self):
        home = home_with(granted(A, 3), behind(B, 4))
        own = (ME, 1, B, 4)
        self.gives(home, marks(own, own), [free(A, 1), free(B, 1), ask(A, 2)], ("gave way", ME, 1))
        trip = home.trip(ME)
        self.assertEqual((trip.attempt, trip.mark, trip.next_key(), trip.state), (2, None, A, "going"))

    def test_the_trip_gives_way_with_others_among_the_marks(self):
        home = home_with(behind(A, 4))
        sent = [free(A, 1), free(B, 1), ask(A, 2)]
        self.gives(home, marks(OWN, ((1, 1), 1, C, 1), OWN, YOUNG), sent, ("gave way", ME, 1))

    def test_the_event_names_the_attempt_that_is_given_up(self):
        home = home_with()
        for attempt in (1, 2, 3):
            own = (ME, attempt, A, 4)
            home.handle(behind(A, 4, attempt=attempt))
            sent = [free(A, attempt), free(B, attempt), ask(A, attempt + 1)]
            self.gives(home, marks(own, own), sent, ("gave way", ME, attempt))

    def test_twice(self):
        home = home_with(behind(A, 4), marks(OWN, OWN))
        self.nothing(home, marks(OWN, OWN))

    def test_without_an_effect(self):
        self.nothing(home_with(), marks(OWN, OWN))
        waiting = home_with(behind(A, 4))
        self.nothing(waiting, marks((ME, 1, A, 3), OWN))
        self.nothing(waiting, marks((ME, 1, A, 5), OWN))
        self.nothing(waiting, marks((ME, 2, A, 4), OWN))
        self.nothing(waiting, marks((ME, 1, B, 4), OWN))
        self.nothing(waiting, marks(OWN, ((1, 1), 1, C, 1)))
        self.nothing(home_with(granted(A, 3), granted(B, 4)), marks(OWN, OWN))
        self.nothing(home_with(granted(A, 3), granted(B, 4), finished(A), finished(B)), marks(OWN, OWN))


class NobodyTest(HomeCase):
    def test_messages_to_transactions_that_are_not_there(self):
        homes = (Home(5), home_with(), home_with(behind(A, 4)), home_with(granted(A, 3), granted(B, 4)))
        for home in homes:
            for transaction in (NOBODY, (1, 4), (5, 1)):
                if home.transactions():
                    self.assertNotIn(transaction, home.transactions())
                for body in (
                    granted(A, 3, transaction=transaction),
                    granted(B, 3, transaction=transaction),
                    behind(A, 9, transaction=transaction),
                    freed(A, 1, transaction),
                    finished(A, 1, transaction),
                    called(1, transaction=transaction),
                    called(1, OWN, transaction),
                    marks((transaction, 1, A, 4), OWN),
                    marks((transaction, 1, A, 4), (transaction, 1, A, 4)),
                ):
                    self.nothing(home, body)

    def test_it_is_not_begun_by_a_message(self):
        home = Home(5)
        home.handle(granted(A, 3))
        self.assertEqual(home.transactions(), [])
        self.assertEqual(home.begin(PROGRAM), ME)
        self.assertEqual(home.push(), [ask(A)])

    def test_the_caller_and_the_holder_need_not_be_there(self):
        home = home_with(behind(A, 4, ((7, 5), 1)))
        self.assertEqual(home.push(), [ask(A), call(OWN, ((7, 5), 1))])
        self.gives(home, called(caller=((7, 5), 1, B, 2)), [(5, ("marks", (7, 5), 1, B, 2, (OWN,)))])


class SeveralTripsTest(HomeCase):
    def test_a_message_concerns_its_own_trip(self):
        home = Home(5)
        for _ in range(3):
            home.begin(PROGRAM)
        second = (2, 5)
        self.gives(home, granted(A, 3, transaction=second), [ask(B, 1, second)])
        sent = [finish(A, 3, 1, second), finish(B, 6, 1, second)]
        self.gives(home, granted(B, 4, transaction=second), sent, ("committed", second, 1, True, (3,)))
        self.assertEqual(home.push(), [ask(A)] + sent + [ask(A, 1, (3, 5))])

    def test_push_is_the_eldest_first(self):
        home = Home(5)
        for number in range(1, 12):
            home.begin((("read", (20 - number, "x")),))
        expected = [ask((20 - number, "x"), 1, (number, 5)) for number in range(1, 12)]
        self.assertEqual(home.push(), expected)

    def test_push_of_trips_in_all_states(self):
        home = Home(5)
        for _ in range(4):
            home.begin(PROGRAM)
        for transaction in ((2, 5), (4, 5)):
            home.handle(granted(A, 1, transaction=transaction))
            home.handle(granted(B, 2, transaction=transaction))
        home.handle(finished(A, 1, (2, 5)))
        home.handle(finished(B, 1, (2, 5)))
        home.handle(finished(A, 1, (4, 5)))
        mark = ((3, 5), 1, A, 2)
        home.handle(behind(A, 2, transaction=(3, 5)))
        self.assertEqual(home.push(), [ask(A), ask(A, 1, (3, 5)), call(mark), finish(B, 4, 1, (4, 5))])

    def test_push_changes_nothing(self):
        home = home_with(behind(A, 4), marks(OWN, YOUNG))
        before = self.shown(home)
        home.push()
        self.assertEqual(self.shown(home), before)


class KeptTest(HomeCase):
    def test_a_home_made_anew(self):
        home = Home(5)
        for _ in range(4):
            home.begin(PROGRAM)
        home.handle(granted(A, 1, transaction=(2, 5)))
        home.handle(behind(B, 6, transaction=(2, 5)))
        home.handle(behind(A, 2, transaction=(3, 5)))
        mark = ((3, 5), 1, A, 2)
        home.handle(("marks",) + mark + ((mark,),))
        home.handle(granted(A, 1, transaction=(4, 5)))
        home.handle(granted(B, 2, transaction=(4, 5)))
        home.handle(finished(A, 1, (4, 5)))
        rows = (
            ((1, 5), PROGRAM, 1, None, False),
            ((2, 5), PROGRAM, 1, None, False),
            ((3, 5), PROGRAM, 2, None, False),
            ((4, 5), PROGRAM, 1, (True, (1,), ((A, 1), (B, 4))), False),
        )
        self.assertEqual(home.rows(), rows)
        again = Home(5, home.rows())
        self.assertEqual((again.house, again.rows(), again.transactions()), (5, rows, home.transactions()))
        frees = [free(A, 1, (3, 5)), free(B, 1, (3, 5))]
        finishes = [finish(A, 1, 1, (4, 5)), finish(B, 4, 1, (4, 5))]
        asks = [ask(A, 1, (1, 5)), ask(A, 1, (2, 5))]
        self.assertEqual(again.push(), asks + frees + [ask(A, 2, (3, 5))] + finishes)
        self.assertIsNone(again.trip((2, 5)).mark)

    def test_a_home_made_anew_of_trips_that_have_ended(self):
        home = home_with(granted(A, 3), granted(B, 4), finished(A), finished(B))
        again = Home(5, home.rows())
        self.assertEqual(again.rows(), ((ME, PROGRAM, 1, (True, (3,), ((A, 3), (B, 6))), True),))
        self.assertEqual((again.push(), again.trip(ME).state, again.trip(ME).outcome), ([], "ended", (True, (3,))))

    def test_the_next_name(self):
        home = Home(5)
        for number in range(1, 12):
            again = Home(5, home.rows())
            self.assertEqual(again.begin(PROGRAM), (number, 5))
            self.assertEqual(again.transactions(), [(elder, 5) for elder in range(1, number + 1)])
            home.begin(PROGRAM)

    def test_a_home_made_anew_goes_on(self):
        home = home_with(granted(A, 3))
        again = Home(5, home.rows())
        self.nothing(again, granted(B, 4))
        self.gives(again, granted(A, 30), [ask(B)])
        self.gives(again, granted(B, 4), [finish(A, 30), finish(B, 6)], ("committed", ME, 1, True, (30,)))
        last = Home(5, again.rows())
        self.nothing(last, granted(A, 9))
        self.gives(last, finished(A), [])
        self.gives(last, finished(B), [], ("ended", ME))

    def test_a_home_without_trips(self):
        self.assertEqual(Home(5, Home(5).rows()).begin(PROGRAM), ME)
        self.assertEqual(Home(5, ()).begin(PROGRAM), ME)


class OwnThingsTest(HomeCase):
    def test_returned_lists_may_be_changed(self):
        home = home_with(behind(A, 4))
        before = self.shown(home)
        for given in (home.transactions(), home.push(), home.handle(called())[0], home.handle(behind(A, 1))[0],
                      home.handle(freed(A, 1))[0], home.handle(finished(A, 1))[0],
                      home.handle(granted(A, 1, transaction=NOBODY))[0]):
            self.assertIs(type(given), list)
            given.append(NOBODY)
            given.reverse()
            self.assertEqual(self.shown(home), before)
        self.assertIsNot(home.transactions(), home.transactions())
        self.assertIsNot(home.push(), home.push())

    def test_what_is_sent_may_be_changed(self):
        home = home_with()
        for body in (behind(A, 4), granted(A, 3), granted(B, 4), finished(A), finished(B)):
            sent, _ = home.handle(body)
            before = self.shown(home)
            sent.append(NOBODY)
            sent.reverse()
            self.assertEqual(self.shown(home), before)
            self.assertEqual(home.handle(body)[0], [])

    def test_what_was_shown_stays_as_it_was(self):
        home = home_with()
        rows, transactions, pushed = home.rows(), home.transactions(), home.push()
        home.begin(PROGRAM)
        home.handle(granted(A, 1))
        home.handle(granted(B, 1))
        self.assertEqual(rows, ((ME, PROGRAM, 1, None, False),))
        self.assertEqual((transactions, pushed), ([ME], [ask(A)]))

    def test_what_was_passed_stays_as_it_was(self):
        rows = ((ME, PROGRAM, 1, None, False),)
        home = Home(5, rows)
        home.begin(PROGRAM)
        home.handle(granted(A, 1))
        home.handle(granted(B, 1))
        self.assertEqual(rows, ((ME, PROGRAM, 1, None, False),))

    def test_two_homes_have_no_effect_on_each_other(self):
        one, other = Home(5), Home(5)
        one.begin(PROGRAM)
        self.assertEqual(other.transactions(), [])
        self.assertEqual(other.begin((("read", C),)), ME)
        one.handle(granted(A, 1))
        one.begin(PROGRAM)
        self.assertEqual((other.push(), other.transactions()), ([ask(C)], [ME]))
        again = Home(5, one.rows())
        again.handle(behind(A, 4))
        one.handle(granted(B, 1))
        self.assertEqual((one.trip(ME).state, again.trip(ME).state, again.trip(ME).mark), ("committed", "going", OWN))
        self.assertIsNone(one.trip(ME).mark)


class RingTest(HomeCase):
    """Homes and shelves together: the messages of two transactions that stand in a ring."""

    def test_the_younger_one_gives_way_and_both_end(self):
        a, b = (0, "a"), (1, "b")
        homes, shelves = [Home(0), Home(1)], [Shelf(), Shelf()]
        elder = homes[0].begin((("add", a, 1), ("read", b), ("add", b, 1)))
        younger = homes[1].begin((("add", b, 10), ("read", a), ("add", a, 10)))
        waiting, events = homes[0].push() + homes[1].push(), []
        for _ in range(100):
            if not waiting:
                waiting = homes[0].push() + homes[1].push()
            if not waiting:
                break
            receiver, body = waiting.pop(0)
            if body[0] in ("ask", "free", "finish"):
                waiting += shelves[receiver].handle(body)
            else:
                sent, event = homes[receiver].handle(body)
                waiting += sent
                events += [event] if event else []
        self.assertEqual(
            events,
            [
                ("gave way", younger, 1),
                ("committed", elder, 1, True, (0,)),
                ("ended", elder),
                ("committed", younger, 2, True, (1,)),
                ("ended", younger),
            ],
        )
        self.assertEqual((shelves[0].row(a)[0], shelves[1].row(b)[0]), (11, 11))


if __name__ == "__main__":
    unittest.main()
