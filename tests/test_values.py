"""What the ten functions of ringloosed/values.py say of things (points 1.1 to 1.3)."""

import unittest

from ringloosed.values import (
    is_integer,
    is_key,
    is_mark,
    is_name,
    is_number,
    is_program,
    is_step,
    is_transaction,
    is_value,
    is_who,
)

ALL = (
    is_number, is_integer, is_value, is_name, is_key,
    is_transaction, is_who, is_mark, is_step, is_program,
)
SMALL = 10 ** 12
GREAT = 10 ** 15


class Prickly:
    """An object that raises an error whatever is done with it."""

    def _raise(self, *rest):
        raise RuntimeError("not to be touched")

    __eq__ = __ne__ = __lt__ = __le__ = __gt__ = __ge__ = _raise
    __hash__ = __len__ = __iter__ = __bool__ = __getitem__ = __contains__ = __int__ = __index__ = _raise


class EqualToAll:
    """An object that is equal to everything."""

    def __eq__(self, other):
        return True

    def __hash__(self):
        return hash("read")


def own_ring():
    """Return a list that contains itself, and so is nested without an end."""
    ring = []
    ring.append(ring)
    return ring


def deep_tuple():
    """Return a tuple that is nested deeper than Python's own calls may be."""
    deep = ()
    for _ in range(5000):
        deep = (deep, 1)
    return deep


# None of these is anything that part 1 of the document describes.
STRANGERS = (
    None, True, False, 0.0, 1.0, 0.5, float("nan"), float("inf"), 1 + 0j, "", "A", "a b", "1", b"a", bytearray(b"a"),
    (), [], {}, set(), frozenset(), [1, 0], {0: "a"}, {"a"}, range(2), object(), int, len, lambda: 0,
    Prickly(), EqualToAll(), own_ring(), deep_tuple(), GREAT * 10, -GREAT * 10, 10 ** 100, -(10 ** 100),
)

KEY = (0, "a")
TRANSACTION = (1, 0)
WHO = ((1, 0), 1)
MARK = ((1, 0), 1, (0, "a"), 1)
STEPS = (("read", KEY), ("put", KEY, 5), ("add", KEY, -5), ("store", KEY), ("need", KEY, 0))


def spoiled(thing):
    """Return things like a nested tuple that have a part too few or too many, a list, or a stranger in it."""
    found = [list(thing), thing[:-1], thing[1:], (), (thing,)]
    found += [thing + (extra,) for extra in (0, 1, "a", None, thing[-1])]
    for at, part in enumerate(thing):
        others = list(STRANGERS)
        if type(part) is tuple:
            others += spoiled(part)
        found += [thing[:at] + (other,) + thing[at + 1:] for other in others]
    return found


class ValuesCase(unittest.TestCase):
    def check(self, function, good, bad):
        """Check that the function returns just True for the good things and just False for the bad ones."""
        for at, thing in enumerate(good):
            with self.subTest(function=function.__name__, good=at):
                self.assertIs(function(thing), True)
        for at, thing in enumerate(bad):
            with self.subTest(function=function.__name__, bad=at):
                self.assertIs(function(thing), False)


class NumbersTest(ValuesCase):
    def test_number(self):
        good = (0, 1, 2, 7, SMALL - 1, SMALL)
        bad = (-1, -2, SMALL + 1, -SMALL, GREAT, GREAT + 1, -GREAT, "0", "5", (0,), [0])
        self.check(is_number, good, bad)

    def test_integer_of_a_step(self):
        good = (0, 1, -1, 7, SMALL - 1, SMALL, 1 - SMALL, -SMALL)
        bad = (SMALL + 1, -SMALL - 1, GREAT, -GREAT, "0", "-1", (0,), [0])
        self.check(is_integer, good, bad)

    def test_value(self):
        good = (0, 1, -1, SMALL, SMALL + 1, -SMALL, -SMALL - 1, GREAT - 1, GREAT, 1 - GREAT, -GREAT)
        bad = (GREAT + 1, -GREAT - 1, "0", "-1", (0,), [0])
        self.check(is_value, good, bad)

    def test_true_and_false_are_no_integers(self):
        for function in (is_number, is_integer, is_value):
            self.check(function, (), (True, False))

    def test_floats_are_no_integers(self):
        for function in (is_number, is_integer, is_value):
            self.check(function, (), (0.0, 1.0, -1.0, 1e12, float("nan"), float("inf"), float("-inf"), 1 + 0j))


class NameTest(ValuesCase):
    def test_lengths(self):
        self.check(is_name, ("a", "z", "ab", "a" * 11, "a" * 12, "abcdefghijkl"), ("", "a" * 13, "a" * 100))

    def test_all_letters_from_a_to_z(self):
        letters = "abcdefghijklmnopqrstuvwxyz"
        self.check(is_name, tuple(letters) + (letters[:12], letters[12:24], letters[14:]), (letters,))

    def test_other_characters(self):
        others = "`{AZ09 _-.'\"\\/%\n\t\r\0\x7f\u00e9\u00df\u00aa\u0131\u0430\u03b1\u01c6\uff41\u2170\ud800\U0001d41a"
        bad = []
        for other in others:
            bad += [other, other + "a", "a" + other, "a" + other + "a"]
        self.check(is_name, (), bad)

    def test_what_is_no_string(self):
        self.check(is_name, (), (None, 0, 1, b"a", b"abc", ("a",), ["a"], {"a": 1}, {"a"}, ("a", "b"), ["a"] * 12))


class TuplesTest(ValuesCase):
    def test_key(self):
        good = (KEY, (1, "b"), (SMALL, "zz"), (5, "a" * 12))
        bad = (
            (-1, "a"), (SMALL + 1, "a"), (True, "a"), (False, "a"), (0.0, "a"), ("0", "a"), ("a", 0), ("a", "a"),
            (0, ""), (0, "a" * 13), (0, "A"), (0, "a\n"), (0, 0), (0, b"a"), (0, ("a",)), (0, ["a"]),
            (0,), (0, "a", 0), [0, "a"], "ab", "a", 0, ((0, "a"),), TRANSACTION, WHO, MARK,
        )
        self.check(is_key, good, bad)

    def test_transaction(self):
        good = (TRANSACTION, (1, 1), (2, 0), (SMALL, 0), (1, SMALL), (SMALL, SMALL))
        bad = (
            (0, 0), (-1, 0), (SMALL + 1, 0), (1, -1), (1, SMALL + 1), (True, 0), (1, True), (1, False), (1.0, 0),
            (1, 0.0), ("1", 0), (1, "0"), (None, 0), (1, None), (1,), (1, 0, 0), [1, 0], "10", 1,
            ((1, 0),), (1, "a"), KEY, WHO, MARK,
        )
        self.check(is_transaction, good, bad)

    def test_who(self):
        good = (WHO, ((1, 0), SMALL), ((SMALL, SMALL), 1), ((3, 2), 7))
        bad = (
            ((1, 0), 0), ((1, 0), -1), ((1, 0), SMALL + 1), ((1, 0), True), ((1, 0), 1.0), ((1, 0), "1"),
            ((1, 0), None), ((0, 0), 1), ((1, -1), 1), ((1, 0, 1), 1), ((1,), 1), ([1, 0], 1), [(1, 0), 1],
            ((1, 0),), ((1, 0), 1, 1), (1, (1, 0)), ((1, 0), (1, 0)), (1, 0, 1), (1, 1), (None, 1),
            TRANSACTION, KEY, MARK,
        )
        self.check(is_who, good, bad)

    def test_mark(self):
        good = (MARK, ((2, 3), 4, (5, "six"), 7), ((SMALL, SMALL), SMALL, (SMALL, "z" * 12), SMALL))
        bad = (
            ((1, 0), 1, KEY, 0), ((1, 0), 1, KEY, -1), ((1, 0), 1, KEY, SMALL + 1), ((1, 0), 1, KEY, True),
            ((1, 0), 1, KEY, 1.0), ((1, 0), 1, KEY, None), ((1, 0), 0, KEY, 1), ((1, 0), SMALL + 1, KEY, 1),
            ((1, 0), True, KEY, 1), ((0, 0), 1, KEY, 1), ((1, SMALL + 1), 1, KEY, 1), ((1, 0), 1, (0, ""), 1),
            ((1, 0), 1, (-1, "a"), 1), ((1, 0), 1, (1, 0), 1), ((0, "a"), 1, (1, 0), 1), ((1, 0), 1, KEY),
            ((1, 0), 1, KEY, 1, 1), (((1, 0), 1), KEY, 1), (((1, 0), 1), 1, KEY, 1), ((1, 0), KEY, 1, 1),
            [(1, 0), 1, KEY, 1], ([1, 0], 1, KEY, 1), ((1, 0), 1, [0, "a"], 1), ((1, 0), 1, "a", 1),
            "abcd", (1, 2, 3, 4), WHO, TRANSACTION, KEY,
        )
        self.check(is_mark, good, bad)


class StepTest(ValuesCase):
    def test_each_word(self):
        good = STEPS + (
            ("read", (SMALL, "z" * 12)), ("store", (5, "b")),
            ("put", KEY, SMALL), ("put", KEY, -SMALL), ("put", KEY, 0),
            ("add", KEY, SMALL), ("add", KEY, -SMALL), ("add", KEY, 0),
            ("need", KEY, SMALL), ("need", KEY, -SMALL), ("need", KEY, 1),
        )
        self.check(is_step, good, ())

    def test_other_words(self):
        words = (
            "", "reads", "rea", "Read", "READ", "read ", " read", "write", "get", "set", "sub", "take", "puts",
            "adds", "needs", "stores", "ask", "free", "r", "a", "read\n", "put,add",
        )
        self.check(is_step, (), [(word, KEY) for word in words] + [(word, KEY, 1) for word in words])

    def test_words_that_are_no_strings(self):
        words = STRANGERS + (
            0, 1, b"read", b"put", ["read"], ["put"], ("read",), ("put",), {"read": 1}, {"read"}, ("read", "store"),
        )
        self.check(is_step, (), [(word, KEY) for word in words] + [(word, KEY, 1) for word in words])

    def test_the_number_of_parts_belongs_to_the_word(self):
        bad = []
        for word in ("read", "store"):
            bad += [(word,), (word, KEY, 1), (word, KEY, 0), (word, KEY, None), (word, KEY, KEY), (word, KEY, 1, 1)]
        for word in ("put", "add", "need"):
            bad += [(word,), (word, KEY), (word, 1), (word, KEY, 1, 1), (word, KEY, KEY), (word, 1, KEY)]
        self.check(is_step, (), bad + [(), "read", "put", KEY, (KEY, "read"), (("read", KEY),)])

    def test_the_integer(self):
        integers = (SMALL + 1, -SMALL - 1, GREAT, -GREAT, True, False, 0.0, 1.0, "1", None, (1,), [1])
        self.check(is_step, (), [(word, KEY, k) for word in ("put", "add", "need") for k in integers])

    def test_the_key(self):
        keys = (
            (-1, "a"), (SMALL + 1, "a"), (True, "a"), (0, ""), (0, "a" * 13), (0, "A"), (0,), (0, "a", 0),
            [0, "a"], ("a", 0), (1, 0), "a", 0, None, (),
        )
        bad = [(word, key) for word in ("read", "store") for key in keys]
        bad += [(word, key, 1) for word in ("put", "add", "need") for key in keys]
        self.check(is_step, (), bad)

    def test_lists_are_no_steps(self):
        self.check(is_step, (), [list(step) for step in STEPS])


class ProgramTest(ValuesCase):
    def test_the_number_of_steps(self):
        step = STEPS[0]
        good = ((step,), (step,) * 2, STEPS, (step,) * 11, (step,) * 12, tuple(STEPS[at % 5] for at in range(12)))
        bad = ((), (step,) * 13, (step,) * 100, tuple(STEPS[at % 5] for at in range(13)))
        self.check(is_program, good, bad)

    def test_a_list_of_steps(self):
        self.check(is_program, (), ([], [STEPS[0]], list(STEPS), {STEPS[0]: True}, {STEPS[0]}, {0: STEPS[0]}))

    def test_a_step_is_no_program(self):
        self.check(is_program, (), STEPS)

    def test_each_of_the_things_must_be_a_step(self):
        wrong = ((), ("read",), ("put", KEY), ["read", KEY], ("write", KEY), STEPS, None, "read", 1)
        bad = []
        for thing in STRANGERS + wrong:
            bad += [(thing,), (thing,) + STEPS, STEPS + (thing,), STEPS[:2] + (thing,) + STEPS[2:]]
            bad += [STEPS[:1] * 11 + (thing,)]
        self.check(is_program, (), bad)

    def test_the_bounds_within_a_program(self):
        good = ((("put", (SMALL, "z" * 12), SMALL), ("need", (0, "a"), -SMALL)),)
        bad = ((("put", (SMALL, "z" * 12), SMALL + 1),), (("read", (SMALL + 1, "a")),), (("add", KEY, True),))
        self.check(is_program, good, bad)


class AnyThingTest(ValuesCase):
    def test_what_is_none_of_all(self):
        for function in ALL:
            self.check(function, (), STRANGERS)

    def test_numbers_and_names_are_nothing_else(self):
        for function in (is_name, is_key, is_transaction, is_who, is_mark, is_step, is_program):
            self.check(function, (), (0, 1, -1, SMALL))
        for function in ALL:
            if function is not is_name:
                self.check(function, (), ("a", "ab", "abcd", "read"))

    def test_tuples_with_one_part_spoiled(self):
        for function, thing in ((is_key, KEY), (is_transaction, TRANSACTION), (is_who, WHO), (is_mark, MARK)):
            self.check(function, (thing,), spoiled(thing))
        for step in STEPS:
            self.check(is_step, (step,), spoiled(step))
            self.check(is_program, ((step,),), [(thing,) for thing in spoiled(step)])

    def test_nothing_is_changed(self):
        thing = [[0, "a"], ["read", [0, "a"]]]
        for function in ALL:
            self.assertIs(function(thing), False)
            self.assertIs(function((thing, thing)), False)
        self.assertEqual(thing, [[0, "a"], ["read", [0, "a"]]])


if __name__ == "__main__":
    unittest.main()
