"""The marks of a transaction (points 4.1 to 4.3)."""

import itertools
import unittest

from ringloosed.marks import Marks

ME = (3, 2)
OWN = (ME, 2, (0, "a"), 4)
NEXT = (ME, 2, (0, "a"), 5)


def mark(transaction, attempt=1, key=(1, "b"), turn=1):
    return (transaction, attempt, key, turn)


ELDER = (mark((1, 0)), mark((2, 9)), mark((3, 1)), mark((3, 0), 9, (9, "z"), 99))
YOUNGER = (mark((3, 3)), mark((4, 0)), mark((10, 0)))


class MarksCase(unittest.TestCase):
    def check(self, marks, own, told):
        self.assertEqual(marks.own, own)
        self.assertEqual(marks.told(), told)
        self.assertIs(type(marks.told()), tuple)

    def begun(self, *taken):
        """Return marks with the own mark OWN that has taken what is passed, one tuple after the other."""
        marks = Marks(ME)
        marks.begin(OWN)
        for some in taken:
            self.assertIs(marks.take(some), False)
        return marks


class OwnMarkTest(MarksCase):
    def test_there_is_none_at_first(self):
        self.check(Marks(ME), None, ())

    def test_begin(self):
        marks = Marks(ME)
        self.assertIsNone(marks.begin(OWN))
        self.check(marks, OWN, (OWN,))

    def test_begin_forgets_the_own_mark_that_was(self):
        marks = self.begun()
        self.assertIsNone(marks.begin(NEXT))
        self.check(marks, NEXT, (NEXT,))
        self.assertIs(marks.take((OWN,)), False)
        self.check(marks, NEXT, (NEXT,))
        self.assertIs(marks.take((NEXT,)), True)

    def test_begin_forgets_all_marks_that_are_kept(self):
        marks = self.begun(YOUNGER)
        marks.begin(NEXT)
        self.check(marks, NEXT, (NEXT,))

    def test_begin_of_the_same_mark_forgets_too(self):
        marks = self.begun(YOUNGER)
        marks.begin(OWN)
        self.check(marks, OWN, (OWN,))

    def test_end(self):
        marks = self.begun(YOUNGER)
        self.assertIsNone(marks.end())
        self.check(marks, None, ())

    def test_end_forgets_all_marks_that_are_kept(self):
        marks = self.begun(YOUNGER)
        marks.end()
        marks.begin(OWN)
        self.check(marks, OWN, (OWN,))

    def test_end_without_an_own_mark(self):
        marks = Marks(ME)
        self.assertIsNone(marks.end())
        self.check(marks, None, ())
        marks.begin(OWN)
        marks.end()
        marks.end()
        self.check(marks, None, ())


class TakeTest(MarksCase):
    def test_the_example_of_the_document(self):
        marks = Marks((2, 0))
        marks.begin(((2, 0), 1, (0, "a"), 4))
        self.assertIs(marks.take((((1, 3), 1, (0, "b"), 1), ((3, 1), 2, (1, "a"), 9))), False)
        self.check(marks, ((2, 0), 1, (0, "a"), 4), (((2, 0), 1, (0, "a"), 4), ((3, 1), 2, (1, "a"), 9)))
        self.assertIs(marks.take((((2, 0), 1, (0, "a"), 4),)), True)

    def test_younger_ones_are_kept(self):
        for young in YOUNGER:
            self.check(self.begun((young,)), OWN, (OWN, young))
        self.check(self.begun(YOUNGER), OWN, (OWN,) + YOUNGER)

    def test_elder_ones_are_not_kept(self):
        for elder in ELDER:
            self.check(self.begun((elder,)), OWN, (OWN,))
        self.check(self.begun(ELDER), OWN, (OWN,))

    def test_elder_and_younger_ones(self):
        taken = (ELDER[0], ELDER[2], YOUNGER[0], YOUNGER[2])
        self.check(self.begun(taken), OWN, (OWN, YOUNGER[0], YOUNGER[2]))

    def test_other_marks_of_its_own_transaction_are_neither_the_own_one_nor_younger(self):
        others = (
            mark(ME, 1, (0, "a"), 4), mark(ME, 3, (0, "a"), 4), mark(ME, 2, (0, "b"), 4),
            mark(ME, 2, (1, "a"), 4), mark(ME, 2, (0, "a"), 3), mark(ME, 2, (0, "a"), 5),
        )
        for other in others:
            self.check(self.begun((other,)), OWN, (OWN,))
        self.check(self.begun(tuple(sorted(others + YOUNGER))), OWN, (OWN,) + YOUNGER)

    def test_no_marks(self):
        self.check(self.begun(()), OWN, (OWN,))

    def test_the_own_one(self):
        marks = self.begun()
        self.assertIs(marks.take((OWN,)), True)
        self.check(marks, OWN, (OWN,))

    def test_the_own_one_among_others(self):
        for others in (YOUNGER, ELDER, ELDER + YOUNGER):
            for place in range(len(others) + 1):
                marks = self.begun()
                self.assertIs(marks.take(others[:place] + (OWN,) + others[place:]), True)
                self.check(marks, OWN, (OWN,))

    def test_what_was_kept_before_stays(self):
        marks = self.begun((YOUNGER[1],))
        self.assertIs(marks.take((OWN, YOUNGER[0], YOUNGER[2])), True)
        self.check(marks, OWN, (OWN, YOUNGER[1]))
        self.assertIs(marks.take((YOUNGER[2],)), False)
        self.check(marks, OWN, (OWN, YOUNGER[1], YOUNGER[2]))

    def test_marks_that_are_taken_twice(self):
        marks = self.begun(YOUNGER[:2], YOUNGER[:2], YOUNGER[1:], (YOUNGER[0],))
        self.check(marks, OWN, (OWN,) + YOUNGER)

    def test_marks_that_are_twice_in_what_is_taken(self):
        self.check(self.begun((YOUNGER[0], YOUNGER[0])), OWN, (OWN, YOUNGER[0]))

    def test_several_marks_of_one_transaction_are_all_kept(self):
        young = (
            mark((4, 0), 1, (0, "a"), 1), mark((4, 0), 1, (0, "a"), 2), mark((4, 0), 1, (0, "b"), 1),
            mark((4, 0), 1, (1, "a"), 1), mark((4, 0), 2, (0, "a"), 1),
        )
        self.check(self.begun(young), OWN, (OWN,) + young)
        self.check(self.begun(*[(one,) for one in young[::-1]]), OWN, (OWN,) + young)

    def test_younger_means_the_greater_tuple(self):
        for me, other in itertools.permutations([(1, 0), (1, 5), (2, 0), (2, 5), (10, 0)], 2):
            marks = Marks(me)
            marks.begin(mark(me))
            self.assertIs(marks.take((mark(other),)), False)
            self.assertEqual(marks.told(), (mark(me), mark(other)) if other > me else (mark(me),))


class ToldTest(MarksCase):
    def test_ascending_in_whatever_order_they_came(self):
        young = (mark((3, 3), 1), mark((3, 3), 2), mark((4, 0)), mark((9, 0)), mark((10, 0)))
        for order in itertools.permutations(young):
            self.check(self.begun(order), OWN, (OWN,) + young)
            self.check(self.begun(order[:2], order[2:]), OWN, (OWN,) + young)

    def test_it_changes_nothing(self):
        marks = self.begun(YOUNGER)
        for _ in range(3):
            self.check(marks, OWN, (OWN,) + YOUNGER)

    def test_marks_taken_behind_a_new_own_mark(self):
        marks = self.begun((YOUNGER[0],))
        marks.begin(NEXT)
        self.assertIs(marks.take((YOUNGER[2], YOUNGER[1])), False)
        self.check(marks, NEXT, (NEXT, YOUNGER[1], YOUNGER[2]))


class OwnThingsTest(MarksCase):
    def test_what_was_passed_stays_as_it_was(self):
        taken = (YOUNGER[2], ELDER[0], YOUNGER[0])
        self.begun(taken)
        self.assertEqual(taken, (YOUNGER[2], ELDER[0], YOUNGER[0]))

    def test_two_objects_have_no_effect_on_each_other(self):
        one, other = Marks(ME), Marks(ME)
        one.begin(OWN)
        self.check(other, None, ())
        other.begin(NEXT)
        one.take(YOUNGER)
        self.check(one, OWN, (OWN,) + YOUNGER)
        self.check(other, NEXT, (NEXT,))
        other.take((YOUNGER[0],))
        one.end()
        self.check(one, None, ())
        self.check(other, NEXT, (NEXT, YOUNGER[0]))


if __name__ == "__main__":
    unittest.main()
