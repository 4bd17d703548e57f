"""The replay and the audit of lists of events (points 10.1 and 10.2)."""

import unittest

from ringloosed.audit import audit, replay
from ringloosed.hall import Hall
from ringloosed.program import keys_of, run_program
from ringloosed.scenario import run
from ringloosed.settle import settle
from tests.helper import Deeds, Drawn, hall_with_ring, keys_for, locks_of

A, B, C = (0, "a"), (1, "b"), (2, "c")
ONE, TWO, THREE = (1, 0), (1, 1), (2, 0)
READ = (("read", A),)
ADD = (("add", A, 1), ("read", A))
NOT_DONE = (("read", A), ("add", B, 5), ("need", A, 100))


def began(name, program=READ):
    return ("began", name, program)


def committed(name, done=True, read=(0,), attempt=1):
    return ("committed", name, attempt, done, read)


def ended(name):
    return ("ended", name)


def gave_way(name, attempt=1):
    return ("gave way", name, attempt)


def replay_by_the_letter(events):
    """Do what point 10.1 says, word by word."""
    order = []
    for place, event in enumerate(events):
        begins = [other for other in events[:place] if other[:2] == ("began", event[1])]
        if event[0] == "committed" and begins and event[1] not in [name for name, _ in order]:
            order.append((event[1], begins[-1][2]))
    outcomes, values = {}, {}
    for name, program in order:
        done, read, behind = run_program(program, {key: values.get(key, 0) for key in keys_of(program)})
        outcomes[name] = (done, tuple(read))
        values.update(behind)
    return outcomes, values


def word_by_the_letter(events, place):
    """Return the first word of point 10.2 that applies to the event at a place, None if there is none."""
    word, name = events[place][:2]
    earlier = [event[0] for event in events[:place] if event[1] == name]
    rules = [
        ("twice", word == "began" and "began" in earlier),
        ("unknown", word != "began" and "began" not in earlier),
        ("early", word == "ended" and "committed" not in earlier),
        ("twice", word == "ended" and "ended" in earlier),
        ("twice", word in ("committed", "gave way") and "committed" in earlier),
        ("read", word == "committed" and replay_by_the_letter(events)[0].get(name) != events[place][3:]),
    ]
    return next((found for found, applies in rules if applies), None)


def audit_by_the_letter(events):
    words = [word_by_the_letter(events, place) for place in range(len(events))]
    return [(word, place) for place, word in enumerate(words) if word]


class AuditCase(unittest.TestCase):
    def replays(self, events, outcomes, values):
        before = list(events)
        result = replay(events)
        self.assertEqual(result, (outcomes, values))
        self.assertEqual([type(part) for part in (result,) + result], [tuple, dict, dict])
        for name in result[0]:
            self.assertIs(type(result[0][name]), tuple)
            self.assertIs(type(result[0][name][0]), bool)
            self.assertIs(type(result[0][name][1]), tuple)
        self.assertEqual(events, before)

    def finds(self, events, *findings):
        before = list(events)
        result = audit(events)
        self.assertEqual(result, list(findings))
        self.assertEqual([type(part) for part in [result] + result], [list] + [tuple] * len(result))
        self.assertEqual(events, before)


class ReplayTest(AuditCase):
    def test_no_events(self):
        self.replays([], {}, {})

    def test_one_transaction(self):
        self.replays([began(ONE), committed(ONE)], {ONE: (True, (0,))}, {A: 0})
        self.replays([began(ONE, ADD), committed(ONE)], {ONE: (True, (1,))}, {A: 1})

    def test_who_has_not_committed_is_not_run(self):
        self.replays([began(ONE)], {}, {})
        self.replays([began(ONE, ADD), gave_way(ONE), ended(ONE)], {}, {})
        events = [began(ONE, ADD), began(TWO, ADD), committed(TWO)]
        self.replays(events, {TWO: (True, (1,))}, {A: 1})

    def test_the_order_of_the_commits(self):
        put = (("put", A, 7), ("read", B))
        move = (("read", A), ("store", B))
        events = [began(ONE, put), began(TWO, move), committed(TWO), committed(ONE)]
        self.replays(events, {TWO: (True, (0,)), ONE: (True, (0,))}, {A: 7, B: 0})
        events = [began(ONE, put), began(TWO, move), committed(ONE), committed(TWO)]
        self.replays(events, {ONE: (True, (0,)), TWO: (True, (7,))}, {A: 7, B: 7})

    def test_what_the_commit_tells_does_not_matter(self):
        events = [began(ONE, ADD), committed(ONE, False, (9, 9), 5), began(TWO, ADD), committed(TWO, False, ())]
        self.replays(events, {ONE: (True, (1,)), TWO: (True, (2,))}, {A: 2})

    def test_programs_that_are_not_done(self):
        events = [began(ONE, NOT_DONE), committed(ONE)]
        self.replays(events, {ONE: (False, (0,))}, {A: 0, B: 0})
        events = [began(TWO, ADD), committed(TWO)] + events + [began(THREE, NOT_DONE[:2]), committed(THREE)]
        self.replays(events, {TWO: (True, (1,)), ONE: (False, (1,)), THREE: (True, (1,))}, {A: 1, B: 5})

    def test_a_commit_without_a_begin_does_not_count(self):
        self.replays([committed(ONE)], {}, {})
        self.replays([committed(ONE), began(ONE, ADD)], {}, {})
        self.replays([committed(ONE), began(TWO, ADD), ended(ONE), committed(TWO)], {TWO: (True, (1,))}, {A: 1})

    def test_a_commit_counts_behind_the_begin_only(self):
        events = [
            committed(ONE), began(TWO, ADD), committed(TWO), began(ONE, ADD), began(THREE, ADD), committed(THREE),
            committed(ONE),
        ]
        self.replays(events, {TWO: (True, (1,)), THREE: (True, (2,)), ONE: (True, (3,))}, {A: 3})

    def test_the_first_commit_that_counts(self):
        events = [began(ONE, ADD), began(TWO, ADD), committed(ONE), committed(TWO), committed(ONE), committed(ONE)]
        self.replays(events, {ONE: (True, (1,)), TWO: (True, (2,))}, {A: 2})

    def test_the_last_begin_ahead_of_it(self):
        put = (("put", A, 7),)
        events = [began(ONE, READ), began(ONE, ADD), began(ONE, put), committed(ONE)]
        self.replays(events, {ONE: (True, ())}, {A: 7})
        events = [began(ONE, put), began(ONE, ADD), committed(ONE), began(ONE, (("put", B, 3),)), committed(ONE)]
        self.replays(events, {ONE: (True, (1,))}, {A: 1})
        events = [began(ONE, put), committed(TWO), began(ONE, ADD), began(TWO, ADD), committed(ONE)]
        self.replays(events, {ONE: (True, (1,))}, {A: 1})

    def test_transactions_with_the_same_program(self):
        names = [(number, house) for number in (1, 2, 3) for house in (0, 1)]
        events = [began(name, ADD) for name in names] + [committed(name) for name in reversed(names)]
        outcomes = {name: (True, (6 - place,)) for place, name in enumerate(names)}
        self.replays(events, outcomes, {A: 6})

    def test_all_keys_of_the_programs_that_were_run(self):
        program = (("read", C), ("store", B), ("need", (3, "x"), -1))
        self.replays([began(ONE, program), committed(ONE), began(TWO, READ)], {ONE: (True, (0,))},
                     {C: 0, B: 0, (3, "x"): 0})

    def test_new_dicts(self):
        events = [began(ONE, ADD), committed(ONE)]
        outcomes, values = replay(events)
        outcomes.clear()
        values[A] = 9
        self.replays(events, {ONE: (True, (1,))}, {A: 1})
        replay([])[0][ONE] = 1
        self.replays([], {}, {})


class AuditTest(AuditCase):
    def test_the_examples_of_the_document(self):
        begin = ("began", (1, 0), (("read", (0, "a")),))
        self.finds([begin, ("committed", (1, 0), 1, True, (0,)), ("ended", (1, 0))])
        events = [begin, ("committed", (1, 0), 1, True, (3,)), ("ended", (2, 0))]
        self.finds(events, ("read", 1), ("unknown", 2))

    def test_nothing_is_found(self):
        self.finds([])
        self.finds([began(ONE)])
        self.finds([began(ONE), gave_way(ONE), gave_way(ONE, 2), gave_way(ONE, 2)])
        self.finds([began(ONE), began(TWO), gave_way(ONE), committed(TWO), committed(ONE, attempt=2), ended(ONE)])

    def test_began_twice(self):
        self.finds([began(ONE), began(ONE)], ("twice", 1))
        self.finds([began(ONE), began(TWO), began(THREE), began(ONE, ADD), began(ONE)], ("twice", 3), ("twice", 4))
        self.finds([began(ONE), committed(ONE), ended(ONE), began(ONE)], ("twice", 3))
        self.finds([committed(ONE), began(ONE)], ("unknown", 0))

    def test_unknown(self):
        for event in (ended(ONE), committed(ONE), gave_way(ONE), committed(ONE, False, (5,))):
            self.finds([event], ("unknown", 0))
            self.finds([began(TWO), event], ("unknown", 1))
            self.finds([began((1, 2)), began((0, 1)), event, began(ONE)], ("unknown", 2))

    def test_unknown_goes_first(self):
        # Behind the first ones each of these would be early or twice, or tells what is not read.
        for event in (ended(ONE), committed(ONE, False, (5,)), gave_way(ONE)):
            events = [committed(ONE), ended(ONE), committed(ONE), event]
            self.finds(events, ("unknown", 0), ("unknown", 1), ("unknown", 2), ("unknown", 3))

    def test_ended_early(self):
        self.finds([began(ONE), ended(ONE)], ("early", 1))
        self.finds([began(ONE), gave_way(ONE), ended(ONE), committed(ONE)], ("early", 2))
        self.finds([began(ONE), began(TWO), committed(TWO), ended(ONE)], ("early", 3))

    def test_ended_early_goes_ahead_of_twice(self):
        self.finds([began(ONE), ended(ONE), ended(ONE)], ("early", 1), ("early", 2))

    def test_ended_twice(self):
        self.finds([began(ONE), committed(ONE), ended(ONE), ended(ONE), ended(ONE)], ("twice", 3), ("twice", 4))
        self.finds([began(ONE), ended(ONE), committed(ONE), ended(ONE)], ("early", 1), ("twice", 3))
        self.finds([ended(ONE), began(ONE), committed(ONE), ended(ONE)], ("unknown", 0), ("twice", 3))
        self.finds([began(ONE), began(TWO), committed(ONE), committed(TWO), ended(ONE), ended(TWO)])

    def test_ended_behind_a_commit_that_does_not_count(self):
        self.finds([committed(ONE), began(ONE), ended(ONE)], ("unknown", 0))

    def test_committed_twice(self):
        self.finds([began(ONE), committed(ONE), committed(ONE)], ("twice", 2))
        self.finds([began(ONE), committed(ONE), ended(ONE), committed(ONE, attempt=2)], ("twice", 3))
        self.finds([began(ONE), began(TWO), committed(ONE), committed(TWO)])

    def test_committed_twice_goes_ahead_of_read(self):
        self.finds([began(ONE), committed(ONE), committed(ONE, False, (7,))], ("twice", 2))
        self.finds([began(ONE), committed(ONE, True, (7,)), committed(ONE)], ("read", 1), ("twice", 2))

    def test_committed_behind_a_commit_that_does_not_count(self):
        self.finds([committed(ONE), began(ONE), committed(ONE)], ("unknown", 0), ("twice", 2))
        self.finds([committed(ONE), began(ONE), committed(ONE, True, (9,))], ("unknown", 0), ("twice", 2))

    def test_gave_way_behind_the_commit(self):
        self.finds([began(ONE), committed(ONE), gave_way(ONE)], ("twice", 2))
        self.finds([began(ONE), committed(ONE), ended(ONE), gave_way(ONE, 5)], ("twice", 3))
        self.finds([began(ONE), began(TWO), committed(TWO), gave_way(ONE)])
        self.finds([began(ONE), gave_way(ONE), committed(ONE)])

    def test_what_was_read(self):
        for read in ((), (1,), (0, 0), (-1,)):
            self.finds([began(ONE), committed(ONE, True, read)], ("read", 1))
        self.finds([began(ONE), committed(ONE, False, (0,))], ("read", 1))
        self.finds([began(ONE, NOT_DONE), committed(ONE, True, (0,))], ("read", 1))
        self.finds([began(ONE, NOT_DONE), committed(ONE, False, (0,))])
        self.finds([began(ONE, (("put", A, 1),)), committed(ONE, True, ())])
        self.finds([began(ONE, (("put", A, 1),)), committed(ONE, True, (1,))], ("read", 1))

    def test_the_attempt_does_not_matter(self):
        for attempt in (1, 2, 10 ** 12):
            self.finds([began(ONE), committed(ONE, attempt=attempt)])

    def test_what_was_read_in_the_order_of_the_commits(self):
        begins = [began(ONE, ADD), began(TWO, ADD)]
        self.finds(begins + [committed(TWO, True, (1,)), committed(ONE, True, (2,))])
        self.finds(begins + [committed(ONE, True, (1,)), committed(TWO, True, (2,))])
        self.finds(begins + [committed(ONE, True, (2,)), committed(TWO, True, (1,))], ("read", 2), ("read", 3))
        self.finds(begins + [committed(ONE, True, (1,)), committed(TWO, True, (1,))], ("read", 3))

    def test_what_was_read_by_the_program_of_the_last_begin(self):
        self.finds([began(ONE, ADD), began(ONE, READ), committed(ONE, True, (0,))], ("twice", 1))
        self.finds([began(ONE, READ), began(ONE, ADD), committed(ONE, True, (0,))], ("twice", 1), ("read", 2))
        self.finds([began(ONE, ADD), committed(ONE, True, (1,)), began(ONE, READ)], ("twice", 2))

    def test_a_commit_that_does_not_count_changes_no_value(self):
        events = [committed(ONE, True, (1,)), began(ONE, ADD), began(TWO, ADD), committed(TWO, True, (1,))]
        self.finds(events, ("unknown", 0))

    def test_a_wrong_commit_is_replayed_by_its_program(self):
        events = [began(ONE, ADD), committed(ONE, False, (5,)), began(TWO, READ), committed(TWO, True, (1,))]
        self.finds(events, ("read", 1))

    def test_at_most_one_finding_for_each_event(self):
        events = [ended(ONE), began(ONE), began(ONE), ended(ONE), committed(ONE, False, ()), committed(ONE, False, ()),
                  ended(ONE), gave_way(ONE), ended(TWO)]
        self.finds(events, ("unknown", 0), ("twice", 2), ("early", 3), ("read", 4), ("twice", 5), ("twice", 6),
                   ("twice", 7), ("unknown", 8))

    def test_the_list_of_findings_may_be_changed(self):
        events = [ended(ONE)]
        audit(events).clear()
        self.finds(events, ("unknown", 0))


class ByTheLetterTest(AuditCase):
    def drawn_event(self, drawn):
        name = drawn.one_of((ONE, TWO, THREE))
        word = drawn.below(8)
        if word < 2:
            return began(name, drawn.one_of((READ, ADD, NOT_DONE, (("put", A, 3), ("read", B)))))
        if word < 5:
            return committed(name, drawn.below(4) > 0, drawn.one_of(((0,), (1,), (2,), (3,), ())), 1 + drawn.below(2))
        return ended(name) if word < 7 else gave_way(name)

    def test_drawn_events(self):
        met = set()
        for seed in range(600):
            drawn = Drawn(seed)
            events = [self.drawn_event(drawn) for _ in range(drawn.below(14))]
            self.replays(events, *replay_by_the_letter(events))
            found = audit_by_the_letter(events)
            self.finds(events, *found)
            met |= {(word, events[place][0]) for word, place in found}
        every = {("twice", word) for word in ("began", "committed", "ended", "gave way")}
        every |= {("unknown", word) for word in ("committed", "ended", "gave way")}
        self.assertEqual(met, every | {("early", "ended"), ("read", "committed")})

    def test_events_of_halls_in_another_order(self):
        for seed in range(10):
            hall = Hall(3)
            drawn = Drawn(seed)
            for _ in range(8):
                hall.begin(drawn.below(3), drawn.program(keys_for(3, 3)))
            settle(hall)
            events = hall.book()
            self.finds(events)
            self.finds(events[::-1], *audit_by_the_letter(events[::-1]))
            self.finds(events * 2, *audit_by_the_letter(events * 2))
            self.finds(events[3:], *audit_by_the_letter(events[3:]))
            swapped = sorted(events, key=lambda event: (event[0] != "began", event[1]))
            self.finds(swapped, *audit_by_the_letter(swapped))


class HallTest(AuditCase):
    def test_nothing_is_found_in_the_book_of_a_hall(self):
        for many, houses in ((2, 2), (3, 3), (5, 4), (12, 6)):
            hall, _ = hall_with_ring(many, houses)
            self.finds(hall.book())
            settle(hall)
            self.finds(hall.book())
            outcomes, values = replay(hall.book())
            self.assertEqual(sorted(outcomes), hall.transactions())
            self.assertEqual(values, {key: row[0] for key, row in locks_of(hall).items()})

    def test_nothing_is_found_behind_drawn_deeds(self):
        for seed in range(20):
            houses = 1 + seed % 6
            hall = Hall(houses)
            deeds = Deeds(Drawn(seed), hall, keys_for(houses, 3))
            for _ in range(150):
                run(hall, [deeds.next()])
            self.finds(hall.book())
            settle(hall)
            self.finds(hall.book())


if __name__ == "__main__":
    unittest.main()
