"""The keys of programs, and what runs of them give (points 1.3 and 1.4)."""

import itertools
import unittest

from ringloosed.program import keys_of, run_program

A = (0, "a")
B = (1, "b")
C = (2, "c")
BIG = 10 ** 15


class KeysOfTest(unittest.TestCase):
    def test_one_key(self):
        self.assertEqual(keys_of((("read", A),)), [A])

    def test_each_word_names_a_key(self):
        for step in (("read", C), ("put", C, 1), ("add", C, 1), ("store", C), ("need", C, 1)):
            with self.subTest(step=step):
                self.assertEqual(keys_of((step,)), [C])
                self.assertEqual(keys_of((("read", A), step, ("read", B))), [A, C, B])

    def test_the_order_of_the_first_use(self):
        program = (("read", C), ("add", A, 1), ("store", C), ("need", B, 0), ("put", A, 2), ("read", C), ("read", B))
        self.assertEqual(keys_of(program), [C, A, B])

    def test_all_orders(self):
        for keys in itertools.permutations([(3, "a"), (0, "b"), (0, "a"), (3, "b")]):
            with self.subTest(keys=keys):
                program = tuple(("read", key) for key in keys + tuple(reversed(keys)))
                self.assertEqual(keys_of(program), list(keys))

    def test_keys_that_share_the_house_or_the_name(self):
        program = (("read", (1, "a")), ("read", (0, "a")), ("read", (1, "b")), ("read", (0, "a")))
        self.assertEqual(keys_of(program), [(1, "a"), (0, "a"), (1, "b")])

    def test_twelve_keys(self):
        keys = [(9 - at, "k" * (at + 1)) for at in range(10)] + [(10, "x"), (0, "y")]
        self.assertEqual(keys_of(tuple(("store", key) for key in keys)), keys)

    def test_a_new_list_each_time(self):
        program = (("read", B), ("read", A))
        first = keys_of(program)
        self.assertIs(type(first), list)
        self.assertIsNot(keys_of(program), first)
        first.append(C)
        first.reverse()
        self.assertEqual(keys_of(program), [B, A])
        self.assertEqual(program, (("read", B), ("read", A)))


class RunTest(unittest.TestCase):
    def check(self, program, values, done, read, behind):
        """Run a program and check what is returned, also the kinds of it and the order of the keys."""
        result = run_program(program, values)
        self.assertEqual(result, (done, read, behind))
        self.assertIs(type(result), tuple)
        self.assertIs(result[0], done)
        self.assertIs(type(result[1]), list)
        self.assertIs(type(result[2]), dict)
        self.assertEqual(list(result[2]), keys_of(program))

    def test_the_examples_of_the_document(self):
        program = (("read", A), ("add", A, -3), ("add", B, 3), ("need", A, 0), ("store", B))
        self.check(program, {A: 5, B: 1}, True, [5], {A: 2, B: 5})
        self.check((("read", A), ("add", A, -3), ("need", A, 0)), {A: 2}, False, [2], {A: 2})

    def test_read(self):
        for value in (0, 7, -7, BIG, -BIG):
            with self.subTest(value=value):
                self.check((("read", A),), {A: value}, True, [value], {A: value})

    def test_read_gives_the_value_of_then(self):
        program = (("read", A), ("add", A, 2), ("read", A), ("put", A, 9), ("read", A), ("read", A))
        self.check(program, {A: 1}, True, [1, 3, 9, 9], {A: 9})

    def test_reads_of_several_keys_are_in_order(self):
        self.check((("read", B), ("read", A), ("read", B)), {A: 1, B: 2}, True, [2, 1, 2], {B: 2, A: 1})

    def test_put(self):
        self.check((("put", A, 4),), {A: 100}, True, [], {A: 4})
        self.check((("put", A, -4),), {A: 100}, True, [], {A: -4})
        self.check((("put", A, 0),), {A: 100}, True, [], {A: 0})
        self.check((("put", A, 4), ("put", A, 5)), {A: 100}, True, [], {A: 5})

    def test_add(self):
        self.check((("add", A, 4),), {A: 100}, True, [], {A: 104})
        self.check((("add", A, -104),), {A: 100}, True, [], {A: -4})
        self.check((("add", A, 0),), {A: 100}, True, [], {A: 100})
        self.check((("add", A, 1), ("add", A, 2), ("add", B, 5)), {A: 1, B: -1}, True, [], {A: 4, B: 4})
        self.check((("add", A, 10 ** 12),), {A: BIG - 10 ** 12}, True, [], {A: BIG})

    def test_store_before_any_read_gives_0(self):
        self.check((("store", A),), {A: 7}, True, [], {A: 0})
        self.check((("store", A), ("read", A)), {A: 7}, True, [0], {A: 0})
        self.check((("put", A, 3), ("need", A, 0), ("store", B)), {A: 7, B: 8}, True, [], {A: 3, B: 0})

    def test_store_gives_what_was_read_last(self):
        self.check((("read", A), ("store", B)), {A: 7, B: 1}, True, [7], {A: 7, B: 7})
        program = (("read", A), ("read", B), ("store", C))
        self.check(program, {A: 7, B: 1, C: 0}, True, [7, 1], {A: 7, B: 1, C: 1})
        program = (("read", A), ("store", B), ("read", C), ("store", A))
        self.check(program, {A: 7, B: 1, C: 5}, True, [7, 5], {A: 5, B: 7, C: 5})

    def test_store_gives_what_was_read_and_not_what_the_key_has_by_now(self):
        self.check((("read", A), ("put", A, 3), ("store", B)), {A: 7, B: 1}, True, [7], {A: 3, B: 7})

    def test_store_behind_a_read_of_0(self):
        self.check((("read", A), ("read", B), ("store", A)), {A: 7, B: 0}, True, [7, 0], {A: 0, B: 0})

    def test_store_twice_gives_the_same(self):
        program = (("read", A), ("store", B), ("store", C))
        self.check(program, {A: 7, B: 1, C: 2}, True, [7], {A: 7, B: 7, C: 7})

    def test_store_knows_only_of_its_own_run(self):
        run_program((("read", A),), {A: 7})
        self.check((("store", A),), {A: 9}, True, [], {A: 0})

    def test_need_that_holds(self):
        self.check((("need", A, 3), ("add", A, 1)), {A: 4}, True, [], {A: 5})
        self.check((("need", A, -3), ("read", A)), {A: -2}, True, [-2], {A: -2})

    def test_need_that_holds_just_so(self):
        self.check((("need", A, 3), ("add", A, 1)), {A: 3}, True, [], {A: 4})
        self.check((("need", A, 0),), {A: 0}, True, [], {A: 0})
        self.check((("need", A, -3),), {A: -3}, True, [], {A: -3})

    def test_need_that_fails_just_so(self):
        self.check((("need", A, 3), ("add", A, 1)), {A: 2}, False, [], {A: 2})
        self.check((("need", A, 0),), {A: -1}, False, [], {A: -1})
        self.check((("need", A, 1),), {A: 0}, False, [], {A: 0})
        self.check((("need", A, -3),), {A: -4}, False, [], {A: -4})

    def test_need_looks_at_the_value_of_then(self):
        self.check((("add", A, 1), ("need", A, 3)), {A: 2}, True, [], {A: 3})
        self.check((("put", A, 2), ("need", A, 3)), {A: 9}, False, [], {A: 9})
        self.check((("need", A, 3), ("put", A, 2)), {A: 9}, True, [], {A: 2})

    def test_need_looks_at_its_own_key(self):
        self.check((("need", B, 3),), {A: 0, B: 3}, True, [], {B: 3})
        self.check((("read", A), ("need", B, 3)), {A: 9, B: 2}, False, [9], {A: 9, B: 2})

    def test_need_that_fails_behind_changes_undoes_all_of_them(self):
        program = (("put", A, 5), ("add", B, 2), ("read", B), ("store", C), ("need", B, 4))
        self.check(program, {A: 1, B: 1, C: 8}, False, [3], {A: 1, B: 1, C: 8})

    def test_what_was_read_up_to_the_end_of_the_run_counts(self):
        program = (("read", A), ("add", A, 1), ("read", A), ("need", B, 1), ("read", B), ("put", B, 3), ("read", A))
        self.check(program, {A: 4, B: 0}, False, [4, 5], {A: 4, B: 0})
        self.check(program, {A: 4, B: 1}, True, [4, 5, 1, 5], {A: 5, B: 3})

    def test_keys_behind_the_end_of_the_run_have_their_values(self):
        program = (("need", B, 1), ("put", A, 3), ("read", C))
        self.check(program, {A: 6, B: 0, C: 7}, False, [], {B: 0, A: 6, C: 7})

    def test_the_first_need_that_fails_ends_the_run(self):
        program = (("need", A, 0), ("read", A), ("need", A, 9), ("read", A), ("need", A, 0), ("read", A))
        self.check(program, {A: 5}, False, [5], {A: 5})

    def test_values_of_other_keys_are_passed_over(self):
        values = {(5, "x"): 1, B: 2, (0, "b"): 3, A: 4, C: 6}
        self.check((("read", A), ("add", B, 1)), values, True, [4], {A: 4, B: 3})
        self.check((("read", A), ("need", B, 3)), values, False, [4], {A: 4, B: 2})

    def test_the_order_of_the_keys_is_that_of_the_program(self):
        for values in ({A: 1, B: 2, C: 3}, {C: 3, B: 2, A: 1}, {B: 2, A: 1, C: 3}):
            self.check((("put", C, 1), ("read", A), ("put", B, 3)), values, True, [1], {C: 1, A: 1, B: 3})
            self.check((("read", B), ("put", C, 1), ("need", A, 2)), values, False, [2], {B: 2, C: 3, A: 1})

    def test_twelve_steps(self):
        self.check((("add", A, 1),) * 12, {A: 0}, True, [], {A: 12})
        self.check((("read", A),) * 12, {A: 3}, True, [3] * 12, {A: 3})
        self.check((("add", A, 1),) * 11 + (("need", A, 12),), {A: 0}, False, [], {A: 0})


class NothingKeptTest(unittest.TestCase):
    PROGRAMS = (
        (("put", B, 5), ("read", A), ("store", A), ("add", C, 2)),
        (("put", B, 5), ("read", A), ("need", C, 100)),
        (("need", C, 100), ("read", A), ("put", B, 5)),
        (("read", A), ("read", B), ("read", C)),
    )

    def test_the_dict_that_was_passed_stays_as_it_was(self):
        for program in self.PROGRAMS:
            values = {C: 3, A: 1, B: 2}
            run_program(program, values)
            self.assertEqual(list(values.items()), [(C, 3), (A, 1), (B, 2)])

    def test_what_is_returned_is_new(self):
        for program in self.PROGRAMS:
            values = {key: 1 for key in keys_of(program)}
            first = run_program(program, values)
            again = run_program(program, values)
            self.assertEqual(first, again)
            self.assertIsNot(first[1], again[1])
            self.assertIsNot(first[2], again[2])
            self.assertIsNot(first[2], values)
            first[1].append(99)
            first[2].clear()
            self.assertEqual(run_program(program, values), again)
            self.assertEqual(values, {key: 1 for key in keys_of(program)})

    def test_the_dict_may_be_changed_later(self):
        values = {A: 1}
        result = run_program((("read", A),), values)
        values[A] = 2
        self.assertEqual(result, (True, [1], {A: 1}))


if __name__ == "__main__":
    unittest.main()
