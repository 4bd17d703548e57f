"""Scenarios: deeds by their words, and their outcomes (points 8.4 and 8.5)."""

import unittest

from ringloosed.hall import Hall
from ringloosed.scenario import perform, run
from tests.helper import Deeds, Drawn, keys_for, shown

A, B, C = (0, "a"), (1, "b"), (2, "c")
ME = (1, 0)
PROGRAM = (("read", A), ("add", B, 2))
WORDS = ("begin", "push", "deliver", "drop", "stop", "start")
REFUSED = ("refused", "BadValue")
NO_HOUSES = (-1, -2, -3, 3, 4, 10 ** 12)


def hall_with(*deeds, houses=3):
    hall = Hall(houses)
    run(hall, list(deeds))
    return hall


class ScenarioCase(unittest.TestCase):
    def gives(self, hall, deed, outcome):
        result = perform(hall, deed)
        self.assertEqual(result, outcome)
        self.assertIs(type(result), tuple)

    def refuses(self, hall, deed, name):
        """Perform a deed that is refused, and must change nothing."""
        before = shown(hall)
        self.gives(hall, deed, ("refused", name))
        self.assertEqual(shown(hall), before)


class DeedsTest(ScenarioCase):
    def test_begin(self):
        hall = Hall(3)
        self.gives(hall, ("begin", 0, PROGRAM), ("done", ME))
        self.gives(hall, ("begin", 0, PROGRAM), ("done", (2, 0)))
        self.gives(hall, ("begin", 2, (("put", C, 1),)), ("done", (1, 2)))
        self.assertEqual(hall.book(), [("began", ME, PROGRAM), ("began", (2, 0), PROGRAM),
                                       ("began", (1, 2), (("put", C, 1),))])

    def test_push_and_deliver(self):
        hall = hall_with(("begin", 0, PROGRAM), ("begin", 0, PROGRAM))
        self.gives(hall, ("push", 1), ("done", []))
        self.gives(hall, ("push", 0), ("done", [1, 2]))
        self.gives(hall, ("deliver", 1), ("done", [3]))
        self.gives(hall, ("deliver", 3), ("done", [4]))
        self.assertEqual(hall.network.message(4), (0, 1, ("ask", ME, 1, B)))
        self.gives(hall, ("deliver", 3), ("done", []))
        self.assertEqual(hall.network.numbers(), [1, 2, 3, 4])

    def test_drop(self):
        hall = hall_with(("begin", 0, PROGRAM), ("push", 0), ("push", 0))
        self.gives(hall, ("drop", 1), ("done", None))
        self.assertEqual(hall.network.numbers(), [2])

    def test_stop_and_start(self):
        hall = hall_with()
        self.gives(hall, ("start", 1), ("done", None))
        self.gives(hall, ("stop", 1), ("done", None))
        self.assertEqual([hall.is_up(number) for number in range(3)], [True, False, True])
        self.gives(hall, ("stop", 1), ("done", None))
        self.gives(hall, ("start", 1), ("done", None))
        self.assertEqual([hall.is_up(number) for number in range(3)], [True, True, True])

    def test_each_deed_is_its_method(self):
        for seed in range(20):
            houses = 1 + seed % 6
            hall, other = Hall(houses), Hall(houses)
            deeds = Deeds(Drawn(seed), hall, keys_for(houses, 3))
            for _ in range(100):
                deed = deeds.next()
                if deed[0] == "deliver" and not hall.is_up(hall.network.message(deed[1])[1]):
                    self.refuses(hall, deed, "Down")
                elif deed[0] in ("begin", "push") and not hall.is_up(deed[1]):
                    self.refuses(hall, deed, "Down")
                else:
                    self.gives(hall, deed, ("done", getattr(other, deed[0])(*deed[1:])))
            self.assertEqual(shown(hall), shown(other))


class RefusedTest(ScenarioCase):
    def hall(self):
        """Return a hall with house 1 down, and the messages 1 to house 0 and 2 to house 1."""
        return hall_with(
            ("begin", 0, PROGRAM), ("begin", 0, (("read", B),)), ("push", 0), ("stop", 1),
        )

    def test_unknown(self):
        hall = self.hall()
        for number in NO_HOUSES:
            self.refuses(hall, ("begin", number, PROGRAM), "Unknown")
            for word in ("push", "stop", "start"):
                self.refuses(hall, (word, number), "Unknown")
        for number in (0, -1, 3, 10 ** 12):
            for word in ("deliver", "drop"):
                self.refuses(hall, (word, number), "Unknown")

    def test_down(self):
        hall = self.hall()
        self.refuses(hall, ("begin", 1, PROGRAM), "Down")
        self.refuses(hall, ("push", 1), "Down")
        self.refuses(hall, ("deliver", 2), "Down")

    def test_bad_value(self):
        hall = self.hall()
        programs = (None, True, 5, "read", (), [], {}, [("read", A)], ("read", A), (("read", (3, "a")),),
                    (("read", A), ("write", A)), (("read", A),) * 13, (("add", A, True),))
        for program in programs:
            self.refuses(hall, ("begin", 0, program), "BadValue")

    def test_the_errors_in_their_order(self):
        hall = self.hall()
        for program in (None, (), (("read", (3, "a")),)):
            for number in NO_HOUSES:
                self.refuses(hall, ("begin", number, program), "Unknown")
            self.refuses(hall, ("begin", 1, program), "Down")
            self.refuses(hall, ("begin", 0, program), "BadValue")
        self.gives(hall, ("drop", 2), ("done", None))
        self.refuses(hall, ("deliver", 2), "Unknown")

    def test_drop_stop_and_start_go_with_houses_that_are_down(self):
        hall = self.hall()
        self.gives(hall, ("drop", 2), ("done", None))
        self.gives(hall, ("stop", 1), ("done", None))
        self.gives(hall, ("start", 1), ("done", None))


class NoDeedsTest(ScenarioCase):
    def hall(self):
        return hall_with(("begin", 0, PROGRAM), ("push", 0), ("stop", 1))

    def test_the_empty_tuple(self):
        self.refuses(self.hall(), (), "BadValue")

    def test_unknown_words(self):
        hall = self.hall()
        words = (
            "", "pushes", "Push", "PUSH", " push", "push ", "beg", "begins", "delivers", "droppped", "stops", "star",
            "is_up", "house", "kept", "book", "lock", "trip", "transactions", "houses", "network", "settle", "run",
            "perform", "done", "__init__", "_send",
        )
        for word in words:
            for deed in ((word,), (word, 0), (word, 1), (word, 0, PROGRAM), (word, 99)):
                self.refuses(hall, deed, "BadValue")

    def test_first_items_that_are_no_text(self):
        hall = self.hall()
        things = (
            None, True, False, 0, 1, -1, 2.5, b"push", (), ("push",), ("push", 0), [], ["push"], {}, {"push": 0}, set(),
            {"push"}, object(), Hall, hall, hall.push,
        )
        for thing in things:
            for deed in ((thing,), (thing, 0), (thing, 0, PROGRAM)):
                self.refuses(hall, deed, "BadValue")

    def test_too_few_and_too_many_arguments(self):
        hall = self.hall()
        for word in WORDS:
            arguments = (0, PROGRAM) if word == "begin" else (1,)
            for many in range(len(arguments)):
                self.refuses(hall, (word,) + arguments[:many], "BadValue")
            self.refuses(hall, (word,) + arguments + (0,), "BadValue")
            self.refuses(hall, (word,) + arguments + (PROGRAM,), "BadValue")
            self.refuses(hall, (word,) + arguments + (None, None), "BadValue")

    def test_another_length_goes_ahead_of_the_errors_of_the_deed(self):
        hall = self.hall()
        for number in (-1, 1, 3, 99):
            self.refuses(hall, ("begin", number), "BadValue")
            for word in WORDS[1:]:
                self.refuses(hall, (word, number, PROGRAM), "BadValue")


class RunTest(ScenarioCase):
    def deeds(self):
        return [
            ("begin", 0, PROGRAM), ("push", 0), ("deliver", 1), ("deliver", 9), ("stop", 1), ("push", 1), (),
            ("deliver", 2), ("deliver", 3), ("start", 1), ("deliver", 3), (None, 0), ("begin", 2, PROGRAM[:1]),
            ("begin", 2, ()), ("drop", 1), ("drop", 1), ("deliver", 4),
        ]

    def outcomes(self):
        return [
            ("done", ME), ("done", [1]), ("done", [2]), ("refused", "Unknown"), ("done", None), ("refused", "Down"),
            REFUSED, ("done", [3]), ("refused", "Down"), ("done", None), ("done", [4]), REFUSED, ("done", (1, 2)),
            REFUSED, ("done", None), ("refused", "Unknown"), ("done", [5, 6]),
        ]

    def test_the_outcomes_in_order(self):
        hall = Hall(3)
        outcomes = run(hall, self.deeds())
        self.assertEqual(outcomes, self.outcomes())
        self.assertIs(type(outcomes), list)
        self.assertEqual([event[0] for event in hall.book()], ["began", "began", "committed"])

    def test_run_performs_one_deed_after_the_other(self):
        hall, other = Hall(3), Hall(3)
        outcomes = run(hall, self.deeds())
        self.assertEqual(outcomes, [perform(other, deed) for deed in self.deeds()])
        self.assertEqual(shown(hall), shown(other))

    def test_run_goes_on_in_the_same_hall(self):
        hall = Hall(3)
        outcomes = run(hall, self.deeds()[:5]) + run(hall, self.deeds()[5:])
        self.assertEqual(outcomes, self.outcomes())

    def test_no_deeds(self):
        hall = Hall(2)
        before = shown(hall)
        self.assertEqual(run(hall, []), [])
        self.assertEqual(shown(hall), before)

    def test_the_list_of_deeds_stays_as_it_was(self):
        deeds = self.deeds()
        run(Hall(3), deeds)
        self.assertEqual(deeds, self.deeds())
        program = [("read", A)]
        deeds = [("begin", 0, program), ("begin", [0], 0, 0)]
        run(Hall(3), deeds)
        self.assertEqual((deeds, program), ([("begin", 0, [("read", A)]), ("begin", [0], 0, 0)], [("read", A)]))

    def test_the_list_of_outcomes_may_be_changed(self):
        hall = Hall(3)
        outcomes = run(hall, self.deeds())
        before = shown(hall)
        outcomes[1][1].clear()
        outcomes.clear()
        self.assertEqual(shown(hall), before)
        self.assertEqual(run(Hall(3), self.deeds()), self.outcomes())


if __name__ == "__main__":
    unittest.main()
