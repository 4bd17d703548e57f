"""The names, arguments and places of the interface of stage 1."""

import unittest

import ringloosed.errors
import ringloosed.lock
import ringloosed.program
import ringloosed.values
from ringloosed.lock import Lock
from ringloosed.program import keys_of, run_program

PLACES = (
    (ringloosed.errors, ("LoosedError", "BadValue", "Down", "Unknown")),
    (
        ringloosed.values,
        (
            "is_number", "is_integer", "is_value", "is_name", "is_key",
            "is_transaction", "is_who", "is_mark", "is_step", "is_program",
        ),
    ),
    (ringloosed.program, ("keys_of", "run_program")),
    (ringloosed.lock, ("Lock",)),
)


class InterfaceTest(unittest.TestCase):
    def test_everything_is_defined_where_the_interface_lists_it(self):
        for module, names in PLACES:
            for name in names:
                with self.subTest(name=name):
                    self.assertEqual(getattr(module, name).__module__, module.__name__)

    def test_the_methods_of_a_lock_stand_in_its_class(self):
        for name in ("__init__", "waiting", "ask", "free", "finish"):
            with self.subTest(name=name):
                self.assertIn(name, vars(Lock))

    def test_the_functions_of_values_take_a_thing(self):
        for name in PLACES[1][1]:
            with self.subTest(name=name):
                self.assertIs(getattr(ringloosed.values, name)(thing=None), False)

    def test_the_functions_of_program_take_their_arguments_by_name(self):
        program = (("read", (0, "a")),)
        self.assertEqual(keys_of(program=program), [(0, "a")])
        self.assertEqual(run_program(program=program, values={(0, "a"): 4}), (True, [4], {(0, "a"): 4}))

    def test_a_lock_takes_its_arguments_by_name(self):
        lock = Lock(value=3, turn=2, holder=((1, 0), 1))
        self.assertEqual(lock.ask(who=((2, 0), 1)), [])
        self.assertEqual(lock.finish(who=((1, 0), 1), value=5), [((2, 0), 1)])
        self.assertEqual(lock.free(transaction=(2, 0), attempt=1), [])
        self.assertEqual((lock.value, lock.turn, lock.holder), (5, 3, None))


if __name__ == "__main__":
    unittest.main()
