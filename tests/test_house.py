"""A house: what goes to its shelf and what to its home, and what is kept of it (points 6.3 and 6.4)."""

import unittest

from ringloosed.home import Home
from ringloosed.house import House
from ringloosed.shelf import Shelf
from tests.helper import Drawn

# Keys and transactions of house 0 itself, so that each message could mean its shelf and its home as well.
A, B, C = (0, "a"), (0, "b"), (1, "c")
ME, OTHER, STRANGER = (1, 0), (2, 0), (3, 4)
PROGRAM = (("read", A), ("add", B, 2))
OWN = (ME, 1, A, 4)
LATER = (ME, 2, A, 4)


def ask(key, attempt=1, transaction=ME):
    return ("ask", transaction, attempt, key)


def free(key, attempt=1, transaction=ME):
    return ("free", transaction, attempt, key)


def finish(key, value, attempt=1, transaction=ME):
    return ("finish", transaction, attempt, key, value)


def granted(key, value, attempt=1, turn=1, transaction=ME):
    return ("granted", transaction, attempt, key, turn, value)


def behind(key, turn, attempt=1, holder=(STRANGER, 1), transaction=ME):
    return ("behind", transaction, attempt, key, turn) + holder


def freed(key, attempt=1, transaction=ME):
    return ("freed", transaction, attempt, key)


def finished(key, attempt=1, transaction=ME):
    return ("finished", transaction, attempt, key)


def marks(mark, *told):
    return ("marks",) + mark + (told,)


def call(mark, holder=(STRANGER, 1)):
    return ("call",) + holder + mark


def house_with(*bodies, programs=(PROGRAM,)):
    """Return house 0 with transactions that run the programs, behind the bodies."""
    house = House(0)
    for program in programs:
        house.begin(program)
    for body in bodies:
        house.handle(body)
    return house


def waiting(house):
    return {key: house.shelf.waiting(key) for key in (A, B, C)}


def going(house):
    trips = [house.home.trip(transaction) for transaction in house.home.transactions()]
    return [(trip.row(), trip.mark, trip.told(trip.attempt)) for trip in trips]


def shown(house):
    return (house.number, house.kept(), waiting(house), going(house), house.push())


class HouseCase(unittest.TestCase):
    def gives(self, house, body, sent, event=None):
        result = house.handle(body)
        self.assertEqual(result, (sent, event))
        self.assertIs(type(result), tuple)
        self.assertIs(type(result[0]), list)

    def at_the_shelf(self, house, body, sent):
        """Let a house handle a body for its shelf: its home stays as it was, and there is no event."""
        before = (house.home.rows(), going(house), house.push())
        self.gives(house, body, sent)
        self.assertEqual((house.home.rows(), going(house), house.push()), before)

    def at_home(self, house, body, sent, event=None):
        """Let a house handle a body for its home: its shelf stays as it was."""
        before = (house.shelf.rows(), house.shelf.past(), waiting(house))
        self.gives(house, body, sent, event)
        self.assertEqual((house.shelf.rows(), house.shelf.past(), waiting(house)), before)


class NewHouseTest(HouseCase):
    def test_a_new_house(self):
        for number in (0, 5, 10 ** 12):
            house = House(number)
            self.assertEqual((house.number, house.home.house), (number, number))
            self.assertEqual((house.kept(), house.push()), (((), (), ()), []))
            self.assertIs(type(house.shelf), Shelf)
            self.assertIs(type(house.home), Home)

    def test_the_example_of_the_document(self):
        house = House(0)
        self.assertEqual(house.begin((("put", (0, "a"), 4),)), (1, 0))
        self.assertEqual(house.push(), [(0, ("ask", (1, 0), 1, (0, "a")))])
        told = (0, ("granted", (1, 0), 1, (0, "a"), 1, 0))
        self.assertEqual(house.handle(("ask", (1, 0), 1, (0, "a"))), ([told], None))
        sent = [(0, ("finish", (1, 0), 1, (0, "a"), 4))]
        event = ("committed", (1, 0), 1, True, ())
        self.assertEqual(house.handle(("granted", (1, 0), 1, (0, "a"), 1, 0)), (sent, event))
        self.assertEqual(House(0, kept=house.kept()).push(), sent)

    def test_begin_and_push_are_those_of_the_home(self):
        house, home = House(7), Home(7)
        self.assertEqual((house.push(), home.push()), ([], []))
        for program in (PROGRAM, (("put", C, 1),), PROGRAM):
            self.assertEqual(house.begin(program), home.begin(program))
            self.assertEqual(house.push(), home.push())
            self.assertIs(type(house.push()), list)
        self.assertEqual(house.home.transactions(), [(1, 7), (2, 7), (3, 7)])
        asked = [(0, ask(A, 1, (1, 7))), (1, ask(C, 1, (2, 7))), (0, ask(A, 1, (3, 7)))]
        self.assertEqual(house.push(), asked)


class ShelfMessagesTest(HouseCase):
    def test_ask(self):
        house = house_with()
        self.at_the_shelf(house, ask(A), [(0, granted(A, 0))])
        self.assertEqual(house.shelf.row(A), (0, 1, (ME, 1)))
        self.at_the_shelf(house, ask(A, 1, STRANGER), [(4, behind(A, 1, 1, (ME, 1), STRANGER))])
        self.assertEqual(house.shelf.waiting(A), [(STRANGER, 1)])

    def test_free(self):
        house = house_with(ask(A), ask(A, 1, STRANGER))
        told = (4, granted(A, 0, 1, 2, STRANGER))
        self.at_the_shelf(house, free(A), [told, (0, freed(A))])
        self.assertEqual((house.shelf.row(A), house.shelf.past()), ((0, 2, (STRANGER, 1)), ((A, ME, 1),)))

    def test_finish(self):
        house = house_with(ask(A), ask(A, 1, STRANGER))
        told = (4, granted(A, 9, 1, 2, STRANGER))
        self.at_the_shelf(house, finish(A, 9), [told, (0, finished(A))])
        self.assertEqual((house.shelf.row(A), house.shelf.past()), ((9, 2, (STRANGER, 1)), ((A, ME, 1),)))

    def test_without_an_answer(self):
        house = house_with(free(A))
        self.at_the_shelf(house, ask(A), [])
        self.at_the_shelf(house, finish(B, 9), [])
        self.assertEqual(house.shelf.rows(), ((A, 0, 0, None), (B, 0, 0, None)))

    def test_of_transactions_of_other_homes_and_of_none(self):
        for transaction in (STRANGER, (7, 0)):
            house = house_with()
            home = transaction[1]
            self.at_the_shelf(house, ask(A, 3, transaction), [(home, granted(A, 0, 3, 1, transaction))])
            self.at_the_shelf(house, finish(A, 5, 3, transaction), [(home, finished(A, 3, transaction))])
            self.at_the_shelf(house, free(A, 4, transaction), [(home, freed(A, 4, transaction))])


class HomeMessagesTest(HouseCase):
    def test_granted(self):
        house = house_with(ask(A), ask(B))
        self.at_home(house, granted(A, 3), [(0, ask(B))])
        event = ("committed", ME, 1, True, (3,))
        self.at_home(house, granted(B, 4), [(0, finish(A, 3)), (0, finish(B, 6))], event)

    def test_behind(self):
        house = house_with(ask(A))
        self.at_home(house, behind(A, 4), [(0, ask(A)), (4, call(OWN))])
        self.assertEqual(house.home.trip(ME).mark, OWN)

    def test_freed(self):
        house = house_with(ask(A), behind(A, 4), marks(OWN, OWN))
        self.assertEqual(house.push(), [(0, free(A)), (0, free(B)), (0, ask(A, 2))])
        self.at_home(house, freed(A), [])
        self.assertEqual(house.push(), [(0, free(B)), (0, ask(A, 2))])

    def test_finished(self):
        house = house_with(ask(A), ask(B), granted(A, 3), granted(B, 4))
        self.at_home(house, finished(A), [])
        self.assertEqual(house.push(), [(0, finish(B, 6))])
        self.at_home(house, finished(B), [], ("ended", ME))
        self.assertEqual(house.push(), [])

    def test_call(self):
        caller = (OTHER, 3, B, 5)
        house = house_with(ask(A), behind(A, 4))
        self.at_home(house, call(caller, (ME, 1)), [(0, marks(caller, OWN))])
        self.at_home(house, call(caller, (ME, 2)), [])

    def test_marks(self):
        house = house_with(ask(A), behind(A, 4))
        young = (STRANGER, 1, C, 2)
        self.at_home(house, marks(OWN, young), [])
        self.assertEqual(house.home.trip(ME).told(1), (OWN, young))
        sent = [(0, free(A)), (0, free(B)), (0, ask(A, 2))]
        self.at_home(house, marks(OWN, OWN), sent, ("gave way", ME, 1))

    def test_of_transactions_that_are_not_there(self):
        house = house_with(ask(A), behind(A, 4))
        before = shown(house)
        for who in (OTHER, STRANGER, (1, 1)):
            mark = (who, 1, A, 4)
            bodies = (granted(A, 3, 1, 1, who), behind(A, 5, 1, (ME, 1), who), freed(A, 1, who), finished(A, 1, who))
            for body in bodies + (call(OWN, (who, 1)), marks(mark, mark)):
                self.gives(house, body, [])
        self.assertEqual(shown(house), before)


class CompositionTest(HouseCase):
    def drawn_body(self, drawn):
        word = drawn.one_of(("ask", "free", "finish", "granted", "behind", "freed", "finished", "call", "marks"))
        transaction = drawn.one_of((ME, OTHER, (3, 0), STRANGER))
        head = (word, transaction, 1 + drawn.below(3), drawn.one_of((A, B, C)))
        turn, value = 1 + drawn.below(4), drawn.below(5)
        other = (drawn.one_of((ME, OTHER, STRANGER)), 1 + drawn.below(3))
        if word in ("ask", "free", "freed", "finished"):
            return head
        if word == "finish":
            return head + (value,)
        if word == "granted":
            return head + (turn, value)
        if word == "behind":
            return head + (turn,) + other
        if word == "call":
            return head[:3] + other + (head[3], turn)
        told = {other + (head[3], turn), head[1:] + (turn,)} if value else {other + (head[3], turn)}
        return head + (turn, tuple(sorted(told)))

    def test_a_house_is_its_shelf_and_its_home(self):
        met = set()
        for seed in range(60):
            drawn = Drawn(seed)
            house, shelf, home = House(0), Shelf(), Home(0)
            for program in (PROGRAM, (("put", B, 1), ("read", C), ("read", A)), (("read", A),)):
                self.assertEqual(house.begin(program), home.begin(program))
            for _ in range(120):
                body = self.drawn_body(drawn)
                if body[0] in ("ask", "free", "finish"):
                    expected = (shelf.handle(body), None)
                else:
                    expected = home.handle(body)
                    met.add(expected[1] and expected[1][0])
                self.assertEqual(house.handle(body), expected)
                self.assertEqual(house.kept(), (shelf.rows(), shelf.past(), home.rows()))
                self.assertEqual(house.push(), home.push())
                self.assertEqual(waiting(house), {key: shelf.waiting(key) for key in (A, B, C)})
        self.assertEqual(met, {None, "committed", "ended", "gave way"})

    def test_a_house_made_anew_goes_on_as_shelf_and_home_made_anew(self):
        for seed in range(60):
            drawn = Drawn(1000 + seed)
            house = house_with(programs=(PROGRAM, (("put", B, 1), ("read", C), ("read", A))))
            for _ in range(80):
                house.handle(self.drawn_body(drawn))
                if drawn.below(10) == 0:
                    self.check_made_anew(house, drawn)

    def check_made_anew(self, house, drawn):
        kept = house.kept()
        again = House(0, kept=kept)
        shelf, home = Shelf(kept[0], kept[1]), Home(0, kept[2])
        self.assertEqual(again.kept(), kept)
        for _ in range(20):
            body = self.drawn_body(drawn)
            at_shelf = body[0] in ("ask", "free", "finish")
            expected = (shelf.handle(body), None) if at_shelf else home.handle(body)
            self.assertEqual(again.handle(body), expected)
        self.assertEqual(again.kept(), (shelf.rows(), shelf.past(), home.rows()))
        self.assertEqual(house.kept(), kept)


class KeptTest(HouseCase):
    def full_house(self):
        """Return a house with transactions of all states, with keys that are held and others that wait."""
        a, b, c = ("read", A), ("add", B, 2), ("put", C, 1)
        house = house_with(programs=((a,), (a, b), (b, a, c), (a, b, c), (c,), (a, c)))
        ended, committed, holds, later, new, marked = [(number, 0) for number in range(1, 7)]
        for body in (
            granted(A, 3, 1, 1, ended), finished(A, 1, ended),
            granted(A, 3, 1, 1, committed), granted(B, 4, 1, 1, committed), finished(A, 1, committed),
            granted(B, 6, 1, 1, holds),
            behind(A, 2, 1, (STRANGER, 1), later), marks((later, 1, A, 2), (later, 1, A, 2)),
            freed(A, 1, later), granted(A, 8, 2, 3, later), behind(B, 5, 2, (STRANGER, 1), later),
            granted(A, 9, 1, 7, marked), behind(C, 6, 1, (STRANGER, 2), marked),
            marks((marked, 1, C, 6), ((9, 9), 1, A, 1)),
            ask(A, 1, STRANGER), finish(A, -8, 1, STRANGER), ask(A, 2, STRANGER), ask(A, 1, holds),
            ask(A, 1, marked), free(A, 3, later), ask(B, 1, (8, 1)), ask(B, 1, later), free(C, 1, new),
        ):
            house.handle(body)
        return house

    def kept_of_full_house(self):
        a, b, c = ("read", A), ("add", B, 2), ("put", C, 1)
        rows = ((A, -8, 2, (STRANGER, 2)), (B, 0, 1, ((8, 1), 1)), (C, 0, 0, None))
        past = ((A, STRANGER, 1), (A, (4, 0), 3), (C, (5, 0), 1))
        trips = (
            ((1, 0), (a,), 1, (True, (3,), ((A, 3),)), True),
            ((2, 0), (a, b), 1, (True, (3,), ((A, 3), (B, 6))), False),
            ((3, 0), (b, a, c), 1, None, False),
            ((4, 0), (a, b, c), 2, None, False),
            ((5, 0), (c,), 1, None, False),
            ((6, 0), (a, c), 1, None, False),
        )
        return (rows, past, trips)

    def test_what_is_kept(self):
        house = self.full_house()
        kept = house.kept()
        self.assertEqual(kept, self.kept_of_full_house())
        self.assertEqual([type(part) for part in (kept,) + kept], [tuple] * 4)
        self.assertEqual(kept, (house.shelf.rows(), house.shelf.past(), house.home.rows()))

    def test_looking_at_what_would_be_kept_changes_nothing(self):
        house = self.full_house()
        before = shown(house)
        house.kept()
        House(0, kept=house.kept())
        self.assertEqual(shown(house), before)

    def test_a_house_made_anew_keeps_the_same(self):
        kept = self.full_house().kept()
        again = House(0, kept=kept)
        self.assertEqual(again.kept(), kept)
        self.assertEqual(kept, self.kept_of_full_house())
        self.assertEqual(House(0, kept=again.kept()).kept(), kept)
        self.assertEqual([again.shelf.row(key) for key in (A, B, C)], [row[1:] for row in kept[0]])

    def test_who_waited_is_lost(self):
        house = self.full_house()
        self.assertEqual(waiting(house), {A: [((3, 0), 1), ((6, 0), 1)], B: [((4, 0), 1)], C: []})
        self.assertEqual(waiting(House(0, kept=house.kept())), {A: [], B: [], C: []})

    def test_what_was_given_back_stays(self):
        again = House(0, kept=self.full_house().kept())
        self.gives(again, ask(A, 3, (4, 0)), [])
        self.gives(again, ask(C, 1, (5, 0)), [])
        self.gives(again, finish(A, 7, 1, STRANGER), [(4, finished(A, 1, STRANGER))])

    def test_the_states_stay(self):
        again = House(0, kept=self.full_house().kept())
        trips = [again.home.trip((number, 0)) for number in range(1, 7)]
        states = ["ended", "committed", "going", "going", "going", "going"]
        self.assertEqual([trip.state for trip in trips], states)
        self.assertEqual([trip.attempt for trip in trips], [1, 1, 1, 2, 1, 1])
        self.assertEqual([trip.outcome for trip in trips[:3]], [(True, (3,)), (True, (3,)), None])

    def test_keys_marks_and_what_was_known_are_lost(self):
        house = self.full_house()
        self.assertEqual([house.home.trip((number, 0)).next_key() for number in (3, 4, 5, 6)], [A, B, C, C])
        marks_before = [None, (((4, 0), 2, B, 5)), None, ((6, 0), 1, C, 6)]
        self.assertEqual([house.home.trip((number, 0)).mark for number in (3, 4, 5, 6)], marks_before)
        again = House(0, kept=house.kept())
        self.assertEqual([again.home.trip((number, 0)).next_key() for number in (3, 4, 5, 6)], [B, A, C, A])
        self.assertEqual([again.home.trip((number, 0)).mark for number in range(1, 7)], [None] * 6)
        self.assertEqual(again.home.trip((6, 0)).told(1), ())
        self.assertEqual(
            again.push(),
            [
                (0, finish(A, 3, 1, (2, 0))), (0, finish(B, 6, 1, (2, 0))),
                (0, ask(B, 1, (3, 0))),
                (0, free(A, 1, (4, 0))), (0, free(B, 1, (4, 0))), (1, free(C, 1, (4, 0))), (0, ask(A, 2, (4, 0))),
                (1, ask(C, 1, (5, 0))),
                (0, ask(A, 1, (6, 0))),
            ],
        )

    def test_marks_that_were_kept_do_not_come_again(self):
        house = house_with(behind(A, 4), marks(OWN, ((9, 9), 1, A, 1)))
        again = House(0, kept=house.kept())
        again.handle(behind(A, 4))
        self.assertEqual(again.home.trip(ME).told(1), (OWN,))

    def test_a_house_made_anew_goes_on(self):
        house = house_with(ask(A), granted(A, 3), behind(B, 4), marks((ME, 1, B, 4), (ME, 1, B, 4)))
        again = House(0, kept=house.kept())
        self.gives(again, granted(A, 3), [])
        self.gives(again, granted(A, 3, 2), [(0, free(A)), (0, free(B)), (0, ask(B, 2))])
        event = ("committed", ME, 2, True, (3,))
        self.gives(again, granted(B, 5, 2), [(0, finish(A, 3, 2)), (0, finish(B, 7, 2))], event)
        third = House(0, kept=again.kept())
        self.gives(third, granted(B, 5, 2), [])
        self.gives(third, finished(B, 2), [])
        fourth = House(0, kept=third.kept())
        self.gives(fourth, finished(A, 2), [])
        self.gives(fourth, finished(B, 2), [], ("ended", ME))
        self.gives(House(0, kept=fourth.kept()), finished(B, 2), [])

    def test_names_are_not_used_again(self):
        again = House(0, kept=self.full_house().kept())
        self.assertEqual(again.begin(PROGRAM), (7, 0))
        self.assertEqual(House(0, kept=again.kept()).begin(PROGRAM), (8, 0))


class AloneTest(HouseCase):
    def test_returned_lists_may_be_changed(self):
        house = house_with(ask(A), ask(A, 1, STRANGER))
        before = shown(house)
        house.push().clear()
        house.home.transactions().clear()
        house.shelf.waiting(A).clear()
        self.assertEqual(shown(house), before)
        sent = house.handle(granted(A, 3))[0]
        sent.clear()
        told = house.handle(ask(A, 1, STRANGER))[0]
        told.append(None)
        self.assertEqual(house.push(), [(0, ask(B))])
        self.gives(house, ask(A, 1, STRANGER), [(4, behind(A, 1, 1, (ME, 1), STRANGER))])

    def test_two_houses(self):
        one, two = house_with(), house_with()
        before = shown(two)
        for body in (ask(A), granted(A, 3), behind(B, 4), free(C)):
            one.handle(body)
        one.begin(PROGRAM)
        self.assertEqual(shown(two), before)
        self.assertEqual(House(0).kept(), ((), (), ()))

    def test_two_houses_from_one_keep(self):
        house = house_with(ask(A), granted(A, 3))
        kept = house.kept()
        one, two = House(0, kept=kept), House(0, kept=kept)
        before = shown(two)
        one.handle(finish(A, 8))
        one.handle(granted(A, 3))
        one.begin(PROGRAM)
        self.assertEqual(shown(two), before)
        self.assertEqual(house.kept(), kept)


if __name__ == "__main__":
    unittest.main()
