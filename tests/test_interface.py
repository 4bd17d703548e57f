"""The names, arguments and places of the interface."""

import inspect
import unittest

import ringloosed.audit
import ringloosed.errors
import ringloosed.hall
import ringloosed.home
import ringloosed.house
import ringloosed.lock
import ringloosed.marks
import ringloosed.messages
import ringloosed.network
import ringloosed.program
import ringloosed.scenario
import ringloosed.settle
import ringloosed.shelf
import ringloosed.trip
import ringloosed.values
import ringloosed.waits
from ringloosed.audit import audit, replay
from ringloosed.hall import Hall
from ringloosed.home import Home
from ringloosed.house import House
from ringloosed.lock import Lock
from ringloosed.marks import Marks
from ringloosed.messages import is_body, is_message
from ringloosed.network import Network
from ringloosed.program import keys_of, run_program
from ringloosed.scenario import perform, run
from ringloosed.settle import settle
from ringloosed.shelf import Shelf
from ringloosed.trip import Trip
from ringloosed.waits import ring_of, rings, stands_before, waits, waits_for

PLACES = (
    (ringloosed.errors, ("LoosedError", "BadValue", "Down", "Unknown")),
    (
        ringloosed.values,
        (
            "is_number", "is_integer", "is_value", "is_name", "is_key",
            "is_transaction", "is_who", "is_mark", "is_step", "is_program",
        ),
    ),
    (ringloosed.program, ("keys_of", "run_program")),
    (ringloosed.lock, ("Lock",)),
    (ringloosed.shelf, ("Shelf",)),
    (ringloosed.marks, ("Marks",)),
    (ringloosed.trip, ("Trip",)),
    (ringloosed.home, ("Home",)),
    (ringloosed.house, ("House",)),
    (ringloosed.messages, ("is_body", "is_message")),
    (ringloosed.network, ("Network",)),
    (ringloosed.hall, ("Hall",)),
    (ringloosed.scenario, ("perform", "run")),
    (ringloosed.settle, ("settle",)),
    (ringloosed.waits, ("stands_before", "waits_for", "waits", "ring_of", "rings")),
    (ringloosed.audit, ("replay", "audit")),
)

METHODS = (
    (Lock, ("__init__", "waiting", "ask", "free", "finish")),
    (Shelf, ("__init__", "row", "waiting", "rows", "past", "handle")),
    (Marks, ("__init__", "begin", "end", "take", "told")),
    (
        Trip,
        ("__init__", "row", "next_key", "granted", "behind", "told", "take", "freed", "finished", "push"),
    ),
    (Home, ("__init__", "begin", "trip", "transactions", "rows", "push", "handle")),
    (House, ("__init__", "kept", "begin", "push", "handle")),
    (Network, ("__init__", "send", "message", "drop", "numbers", "__len__", "__iter__")),
    (
        Hall,
        (
            "__init__", "begin", "push", "deliver", "drop", "stop", "start",
            "is_up", "house", "kept", "book", "lock", "trip", "transactions",
        ),
    ),
)

PROPERTIES = (
    (Marks, ("own",)),
    (Trip, ("state", "mark", "outcome")),
    (House, ("shelf", "home")),
)


class InterfaceTest(unittest.TestCase):
    def test_everything_is_defined_where_the_interface_lists_it(self):
        for module, names in PLACES:
            for name in names:
                with self.subTest(name=name):
                    self.assertEqual(getattr(module, name).__module__, module.__name__)

    def test_the_methods_stand_in_their_classes(self):
        for owner, names in METHODS:
            for name in names:
                with self.subTest(owner=owner, name=name):
                    self.assertTrue(callable(vars(owner)[name]))

    def test_the_properties_stand_in_their_classes(self):
        for owner, names in PROPERTIES:
            for name in names:
                with self.subTest(owner=owner, name=name):
                    self.assertIsInstance(vars(owner)[name], property)

    def test_the_functions_of_values_take_a_thing(self):
        for name in PLACES[1][1]:
            with self.subTest(name=name):
                self.assertIs(getattr(ringloosed.values, name)(thing=None), False)

    def test_the_functions_of_program_take_their_arguments_by_name(self):
        program = (("read", (0, "a")),)
        self.assertEqual(keys_of(program=program), [(0, "a")])
        self.assertEqual(run_program(program=program, values={(0, "a"): 4}), (True, [4], {(0, "a"): 4}))

    def test_a_lock_takes_its_arguments_by_name(self):
        lock = Lock(value=3, turn=2, holder=((1, 0), 1))
        self.assertEqual(lock.ask(who=((2, 0), 1)), [])
        self.assertEqual(lock.finish(who=((1, 0), 1), value=5), [((2, 0), 1)])
        self.assertEqual(lock.free(transaction=(2, 0), attempt=1), [])
        self.assertEqual((lock.value, lock.turn, lock.holder), (5, 3, None))

    def test_a_shelf_takes_its_arguments_by_name(self):
        key, who = (0, "a"), ((1, 0), 1)
        shelf = Shelf(rows=((key, 3, 2, who),), past=((key, (2, 0), 4),))
        self.assertEqual(shelf.row(key=key), (3, 2, who))
        self.assertEqual(shelf.waiting(key=key), [])
        self.assertEqual(shelf.handle(body=("ask", (2, 0), 4, key)), [])
        self.assertEqual((Shelf(rows=shelf.rows()).past(), Shelf(past=shelf.past()).rows()), ((), ()))

    def test_marks_take_their_arguments_by_name(self):
        marks = Marks(transaction=(1, 0))
        mark = ((1, 0), 1, (0, "a"), 1)
        self.assertIsNone(marks.begin(mark=mark))
        self.assertIs(marks.take(marks=(mark,)), True)
        self.assertEqual(marks.told(), (mark,))

    def test_a_trip_takes_its_arguments_by_name(self):
        key, program = (0, "a"), (("read", (0, "a")),)
        trip = Trip(transaction=(1, 0), program=program, attempt=2, outcome=None, ended=False)
        self.assertEqual((trip.transaction, trip.program, trip.attempt), ((1, 0), program, 2))
        self.assertIs(trip.behind(attempt=2, key=key, turn=5, holder=((2, 0), 1)), True)
        mark = ((1, 0), 2, key, 5)
        self.assertEqual(trip.told(attempt=2), (mark,))
        self.assertIs(trip.take(mark=mark, marks=(((2, 0), 1, key, 1),)), False)
        self.assertIsNone(trip.freed(attempt=1, key=key))
        self.assertIs(trip.granted(attempt=2, key=key, value=4), True)
        self.assertIs(trip.finished(attempt=2, key=key), True)
        ended = Trip(transaction=(1, 0), program=program, outcome=(True, (4,), ((key, 4),)), ended=True)
        self.assertEqual((ended.attempt, ended.state), (1, "ended"))

    def test_a_home_takes_its_arguments_by_name(self):
        program = (("read", (0, "a")),)
        home = Home(house=3, rows=(((1, 3), program, 1, None, False),))
        self.assertEqual(home.begin(program=program), (2, 3))
        self.assertEqual(home.trip(transaction=(1, 3)).program, program)
        self.assertEqual(home.handle(body=("freed", (1, 3), 1, (0, "a"))), ([], None))
        self.assertEqual((home.house, Home(house=3).house), (3, 3))

    def test_a_house_takes_its_arguments_by_name(self):
        key, program = (3, "a"), (("read", (3, "a")),)
        kept = (((key, 4, 2, None),), ((key, (1, 3), 1),), (((1, 3), program, 2, None, False),))
        house = House(number=3, kept=kept)
        self.assertEqual((house.number, house.kept()), (3, kept))
        self.assertEqual(house.begin(program=program), (2, 3))
        self.assertEqual(house.handle(body=("ask", (1, 3), 1, key)), ([], None))
        self.assertEqual(House(3).kept(), ((), (), ()))

    def test_what_is_kept_of_a_house_is_passed_by_its_name_only(self):
        kept = inspect.signature(House).parameters["kept"]
        self.assertIs(kept.kind, inspect.Parameter.KEYWORD_ONLY)
        self.assertEqual(kept.default, ((), (), ()))

    def test_the_functions_of_messages_take_a_thing(self):
        self.assertIs(is_body(thing=None), False)
        self.assertIs(is_message(thing=None), False)

    def test_a_network_takes_its_arguments_by_name(self):
        network, body = Network(), ("ask", (1, 0), 1, (1, "a"))
        self.assertEqual(network.send(sender=0, receiver=1, body=body), 1)
        self.assertEqual(network.message(number=1), (0, 1, body))
        self.assertIsNone(network.drop(number=1))
        self.assertEqual((network.sent, network.numbers(), len(network), list(network)), (1, [], 0, []))

    def test_a_hall_takes_its_arguments_by_name(self):
        key, program = (1, "a"), (("read", (1, "a")),)
        hall = Hall(houses=2)
        self.assertEqual(hall.begin(number=0, program=program), (1, 0))
        self.assertEqual(hall.push(number=0), [1])
        self.assertEqual(hall.deliver(number=1), [2])
        self.assertIsNone(hall.drop(number=2))
        self.assertIsNone(hall.stop(number=0))
        self.assertIs(hall.is_up(number=0), False)
        self.assertIsNone(hall.start(number=0))
        self.assertEqual(hall.house(number=1).number, 1)
        self.assertEqual(hall.kept(number=1), (((key, 0, 1, ((1, 0), 1)),), (), ()))
        self.assertEqual(hall.lock(key=key), (0, 1, ((1, 0), 1)))
        self.assertEqual(hall.trip(transaction=(1, 0)), (program, 1, "going"))
        self.assertEqual((hall.transactions(), hall.book()), ([(1, 0)], [("began", (1, 0), program)]))
        self.assertEqual((hall.houses, type(hall.network)), (2, Network))

    def test_the_functions_over_a_hall_take_their_arguments_by_name(self):
        key, program = (0, "a"), (("read", (0, "a")),)
        hall = Hall(1)
        self.assertEqual(perform(hall=hall, deed=("begin", 0, program)), ("done", (1, 0)))
        self.assertEqual(run(hall=hall, deeds=[("push", 0)]), [("done", [1])])
        self.assertEqual(stands_before(hall=hall, transaction=(1, 0)), key)
        self.assertIsNone(waits_for(hall=hall, transaction=(1, 0)))
        self.assertEqual(waits(hall=hall), {})
        self.assertEqual(settle(hall=hall), 1)

    def test_the_functions_over_graphs_and_events_take_their_arguments_by_name(self):
        graph = {(1, 0): (2, 0), (2, 0): (1, 0)}
        self.assertEqual(ring_of(graph=graph, transaction=(1, 0)), ((1, 0), (2, 0)))
        self.assertEqual(rings(graph=graph), [((2, 0), (1, 0))])
        self.assertEqual((replay(events=[]), audit(events=[])), (({}, {}), []))


if __name__ == "__main__":
    unittest.main()
