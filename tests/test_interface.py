"""The names, arguments and places of the interface."""

import unittest

import ringloosed.errors
import ringloosed.home
import ringloosed.lock
import ringloosed.marks
import ringloosed.program
import ringloosed.shelf
import ringloosed.trip
import ringloosed.values
from ringloosed.home import Home
from ringloosed.lock import Lock
from ringloosed.marks import Marks
from ringloosed.program import keys_of, run_program
from ringloosed.shelf import Shelf
from ringloosed.trip import Trip

PLACES = (
    (ringloosed.errors, ("LoosedError", "BadValue", "Down", "Unknown")),
    (
        ringloosed.values,
        (
            "is_number", "is_integer", "is_value", "is_name", "is_key",
            "is_transaction", "is_who", "is_mark", "is_step", "is_program",
        ),
    ),
    (ringloosed.program, ("keys_of", "run_program")),
    (ringloosed.lock, ("Lock",)),
    (ringloosed.shelf, ("Shelf",)),
    (ringloosed.marks, ("Marks",)),
    (ringloosed.trip, ("Trip",)),
    (ringloosed.home, ("Home",)),
)

METHODS = (
    (Lock, ("__init__", "waiting", "ask", "free", "finish")),
    (Shelf, ("__init__", "row", "waiting", "rows", "past", "handle")),
    (Marks, ("__init__", "begin", "end", "take", "told")),
    (
        Trip,
        ("__init__", "row", "next_key", "granted", "behind", "told", "take", "freed", "finished", "push"),
    ),
    (Home, ("__init__", "begin", "trip", "transactions", "rows", "push", "handle")),
)

PROPERTIES = (
    (Marks, ("own",)),
    (Trip, ("state", "mark", "outcome")),
)


class InterfaceTest(unittest.TestCase):
    def test_everything_is_defined_where_the_interface_lists_it(self):
        for module, names in PLACES:
            for name in names:
                with self.subTest(name=name):
                    self.assertEqual(getattr(module, name).__module__, module.__name__)

    def test_the_methods_stand_in_their_classes(self):
        for owner, names in METHODS:
            for name in names:
                with self.subTest(owner=owner, name=name):
                    self.assertTrue(callable(vars(owner)[name]))

    def test_the_properties_stand_in_their_classes(self):
        for owner, names in PROPERTIES:
            for name in names:
                with self.subTest(owner=owner, name=name):
                    self.assertIsInstance(vars(owner)[name], property)

    def test_the_functions_of_values_take_a_thing(self):
        for name in PLACES[1][1]:
            with self.subTest(name=name):
                self.assertIs(getattr(ringloosed.values, name)(thing=None), False)

    def test_the_functions_of_program_take_their_arguments_by_name(self):
        program = (("read", (0, "a")),)
        self.assertEqual(keys_of(program=program), [(0, "a")])
        self.assertEqual(run_program(program=program, values={(0, "a"): 4}), (True, [4], {(0, "a"): 4}))

    def test_a_lock_takes_its_arguments_by_name(self):
        lock = Lock(value=3, turn=2, holder=((1, 0), 1))
        self.assertEqual(lock.ask(who=((2, 0), 1)), [])
        self.assertEqual(lock.finish(who=((1, 0), 1), value=5), [((2, 0), 1)])
        self.assertEqual(lock.free(transaction=(2, 0), attempt=1), [])
        self.assertEqual((lock.value, lock.turn, lock.holder), (5, 3, None))

    def test_a_shelf_takes_its_arguments_by_name(self):
        key, who = (0, "a"), ((1, 0), 1)
        shelf = Shelf(rows=((key, 3, 2, who),), past=((key, (2, 0), 4),))
        self.assertEqual(shelf.row(key=key), (3, 2, who))
        self.assertEqual(shelf.waiting(key=key), [])
        self.assertEqual(shelf.handle(body=("ask", (2, 0), 4, key)), [])
        self.assertEqual((Shelf(rows=shelf.rows()).past(), Shelf(past=shelf.past()).rows()), ((), ()))

    def test_marks_take_their_arguments_by_name(self):
        marks = Marks(transaction=(1, 0))
        mark = ((1, 0), 1, (0, "a"), 1)
        self.assertIsNone(marks.begin(mark=mark))
        self.assertIs(marks.take(marks=(mark,)), True)
        self.assertEqual(marks.told(), (mark,))

    def test_a_trip_takes_its_arguments_by_name(self):
        key, program = (0, "a"), (("read", (0, "a")),)
        trip = Trip(transaction=(1, 0), program=program, attempt=2, outcome=None, ended=False)
        self.assertEqual((trip.transaction, trip.program, trip.attempt), ((1, 0), program, 2))
        self.assertIs(trip.behind(attempt=2, key=key, turn=5, holder=((2, 0), 1)), True)
        mark = ((1, 0), 2, key, 5)
        self.assertEqual(trip.told(attempt=2), (mark,))
        self.assertIs(trip.take(mark=mark, marks=(((2, 0), 1, key, 1),)), False)
        self.assertIsNone(trip.freed(attempt=1, key=key))
        self.assertIs(trip.granted(attempt=2, key=key, value=4), True)
        self.assertIs(trip.finished(attempt=2, key=key), True)
        ended = Trip(transaction=(1, 0), program=program, outcome=(True, (4,), ((key, 4),)), ended=True)
        self.assertEqual((ended.attempt, ended.state), (1, "ended"))

    def test_a_home_takes_its_arguments_by_name(self):
        program = (("read", (0, "a")),)
        home = Home(house=3, rows=(((1, 3), program, 1, None, False),))
        self.assertEqual(home.begin(program=program), (2, 3))
        self.assertEqual(home.trip(transaction=(1, 3)).program, program)
        self.assertEqual(home.handle(body=("freed", (1, 3), 1, (0, "a"))), ([], None))
        self.assertEqual((home.house, Home(house=3).house), (3, 3))


if __name__ == "__main__":
    unittest.main()
