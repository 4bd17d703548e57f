"""Waits and rings of waits (points 9.1 to 9.3)."""

import unittest

from ringloosed.hall import Hall
from ringloosed.settle import settle
from ringloosed.waits import ring_of, rings, stands_before, waits, waits_for
from tests.helper import Deeds, Drawn, hall_with_ring, keys_for, shown

A, B, C = (0, "a"), (1, "b"), (2, "c")
FIRST, SECOND, THIRD = (1, 0), (1, 1), (1, 2)


def hall_with(*programs):
    """Return a hall of three houses, at each of which the next of these programs was begun."""
    hall = Hall(3)
    for place, program in enumerate(programs):
        hall.begin(place % 3, program)
    return hall


def take_next(hall, home, told=True):
    """Let the only transaction of a house ask for its next key, and tell it that it was granted."""
    answers = hall.deliver(hall.push(home)[0])
    if told:
        hall.deliver(answers[0])


def by_the_letter(hall):
    """Return the dict of the waits from points 9.1 and 9.2, word by word."""
    trips = {name: hall.trip(name) for name in hall.transactions()}
    found = {}
    for name, (program, attempt, state) in trips.items():
        keys = [step[1] for step in program if hall.lock(step[1])[2] != (name, attempt)]
        if state == "going" and keys:
            for other, (_, its_attempt, _) in trips.items():
                if other != name and hall.lock(keys[0])[2] == (other, its_attempt):
                    found[name] = other
    return found


class WaitsCase(unittest.TestCase):
    def stands(self, hall, transaction, key, other=None):
        before = shown(hall)
        self.assertEqual(stands_before(hall, transaction), key)
        self.assertEqual(waits_for(hall, transaction), other)
        self.assertEqual(waits(hall).get(transaction), other)
        self.assertEqual(shown(hall), before)


class StandsBeforeTest(WaitsCase):
    def test_the_first_key_that_is_not_held(self):
        hall = hall_with((("read", B), ("add", A, 1), ("read", B), ("read", C)))
        self.stands(hall, FIRST, B)
        take_next(hall, 0)
        self.stands(hall, FIRST, A)
        take_next(hall, 0)
        self.stands(hall, FIRST, C)

    def test_a_key_is_held_when_its_lock_says_so(self):
        hall = hall_with((("read", A), ("read", B)))
        ask = hall.push(0)[0]
        self.stands(hall, FIRST, A)
        granted = hall.deliver(ask)[0]
        # The transaction does not know of it yet.
        self.assertEqual(hall.house(0).home.trip(FIRST).next_key(), A)
        self.stands(hall, FIRST, B)
        hall.deliver(granted)
        self.stands(hall, FIRST, B)

    def test_all_keys_are_held_but_it_is_going_yet(self):
        hall = hall_with((("read", A), ("read", B)))
        take_next(hall, 0)
        take_next(hall, 0, told=False)
        self.assertEqual(hall.trip(FIRST)[2], "going")
        self.stands(hall, FIRST, None)

    def test_committed_and_ended(self):
        hall = hall_with((("read", A), ("read", B)), (("add", B, 1), ("add", A, 1)))
        take_next(hall, 0)
        take_next(hall, 0)
        self.assertEqual(hall.trip(FIRST)[2], "committed")
        self.stands(hall, FIRST, None)
        # What has committed holds its keys until they are finished.
        self.stands(hall, SECOND, B, FIRST)
        finishes = hall.push(0)
        hall.deliver(finishes[0])
        self.stands(hall, FIRST, None)
        self.stands(hall, SECOND, B, FIRST)
        hall.deliver(finishes[1])
        self.stands(hall, FIRST, None)
        self.stands(hall, SECOND, B)
        settle(hall)
        self.assertEqual(hall.trip(FIRST)[2], "ended")
        self.stands(hall, FIRST, None)
        self.stands(hall, SECOND, None)
        self.assertEqual(waits(hall), {})

    def test_committed_while_another_one_holds_its_first_key(self):
        hall = hall_with((("read", A), ("read", B)), (("add", A, 1),))
        take_next(hall, 0)
        take_next(hall, 0)
        hall.deliver(hall.push(1)[0])
        hall.deliver(hall.push(0)[0])
        self.assertEqual((hall.trip(FIRST)[2], hall.lock(A)[2]), ("committed", (SECOND, 1)))
        self.stands(hall, FIRST, None)
        self.stands(hall, SECOND, None)

    def test_homes_and_houses_that_are_down(self):
        for down in ((0,), (1,), (0, 1), (0, 1, 2)):
            hall = hall_with((("read", A), ("read", B)), (("read", B), ("read", A)))
            take_next(hall, 0)
            take_next(hall, 1)
            for number in down:
                hall.stop(number)
            self.stands(hall, FIRST, B, SECOND)
            self.stands(hall, SECOND, A, FIRST)
            self.assertEqual(waits(hall), {FIRST: SECOND, SECOND: FIRST})
            for number in down:
                hall.start(number)
            self.stands(hall, FIRST, B, SECOND)

    def test_keys_stay_held_when_the_home_has_lost_them(self):
        hall = hall_with((("read", A), ("read", B)))
        take_next(hall, 0)
        hall.stop(0)
        hall.start(0)
        self.assertEqual(hall.house(0).home.trip(FIRST).next_key(), A)
        self.stands(hall, FIRST, B)


class WaitsForTest(WaitsCase):
    def test_a_key_that_is_free_or_was_never_named(self):
        hall = hall_with((("read", A),), (("read", A),))
        self.stands(hall, FIRST, A)
        self.stands(hall, SECOND, A)
        self.assertEqual(waits(hall), {})

    def test_behind_a_holder(self):
        hall = hall_with((("read", A),), (("read", A),), (("read", B), ("read", A)))
        take_next(hall, 1, told=False)
        self.stands(hall, FIRST, A, SECOND)
        self.stands(hall, SECOND, None)
        self.stands(hall, THIRD, B)
        take_next(hall, 2)
        self.stands(hall, THIRD, A, SECOND)

    def test_who_has_not_asked_yet_waits_too(self):
        hall = hall_with((("read", A),), (("read", A),))
        take_next(hall, 1)
        self.assertEqual(hall.house(0).shelf.waiting(A), [])
        self.stands(hall, FIRST, A, SECOND)

    def test_who_has_asked_for_a_key_that_is_free_does_not_wait(self):
        hall = hall_with((("read", A),))
        hall.push(0)
        self.stands(hall, FIRST, A)

    def test_only_the_key_before_which_it_stands_counts(self):
        hall = hall_with((("read", A), ("read", B)), (("read", B), ("read", C)))
        take_next(hall, 1)
        self.stands(hall, FIRST, A)
        take_next(hall, 0)
        self.stands(hall, FIRST, B, SECOND)

    def hall_with_an_earlier_attempt(self):
        """Return a hall in which SECOND has given way, and the keys know nothing of it yet."""
        hall, names = hall_with_ring(2, 2)
        self.assertEqual(names, [FIRST, SECOND])
        self.assertEqual(waits(hall), {FIRST: SECOND, SECOND: FIRST})
        for number in range(1, 5):
            hall.drop(number)
        for number in hall.network.numbers():
            hall.deliver(number)
        for home in (0, 1):
            call = hall.push(home)[1]
            hall.deliver(hall.deliver(call)[0])
        self.assertEqual(hall.trip(SECOND)[1:], (2, "going"))
        return hall

    def test_a_key_that_is_held_with_an_earlier_attempt(self):
        hall = self.hall_with_an_earlier_attempt()
        own, other = (1, "ab"), (0, "aa")
        self.assertEqual(hall.lock(own)[2], (SECOND, 1))
        self.stands(hall, SECOND, own)
        self.stands(hall, FIRST, own)
        self.assertEqual(hall.lock(other)[2], (FIRST, 1))
        self.assertEqual(waits(hall), {})
        for number in (0, 1):
            hall.stop(number)
        self.stands(hall, SECOND, own)
        self.stands(hall, FIRST, own)

    def test_behind_the_free_that_follows(self):
        hall = self.hall_with_an_earlier_attempt()
        frees = [number for number in hall.push(1) if hall.network.message(number)[2][0] == "free"]
        hall.deliver(frees[0])
        self.assertEqual(hall.lock((1, "ab"))[2], (FIRST, 1))
        self.stands(hall, FIRST, None)
        self.stands(hall, SECOND, (1, "ab"), FIRST)


class WaitsTest(WaitsCase):
    def test_the_eldest_first(self):
        program = (("read", A), ("read", B))
        hall = hall_with(*[program] * 7)
        for house in (2, 1, 0):
            hall.push(house)
        ask = [number for number in hall.network if hall.network.message(number)[2][1] == (2, 1)]
        hall.deliver(ask[0])
        found = waits(hall)
        names = [(1, 0), (1, 1), (1, 2), (2, 0), (2, 2), (3, 0)]
        self.assertEqual(list(found.items()), [(name, (2, 1)) for name in names])
        self.assertIs(type(found), dict)

    def test_a_new_dict_each_time(self):
        hall, names = hall_with_ring(3, 3)
        before = shown(hall)
        found = waits(hall)
        found.clear()
        found[(9, 9)] = (8, 8)
        self.assertIsNot(waits(hall), waits(hall))
        self.assertEqual(waits(hall), {names[0]: names[1], names[1]: names[2], names[2]: names[0]})
        self.assertEqual(shown(hall), before)

    def test_a_hall_without_transactions(self):
        self.assertEqual(waits(Hall(4)), {})

    def test_rings_of_halls(self):
        for many, houses in ((2, 1), (2, 2), (3, 3), (4, 2), (6, 6), (12, 5), (40, 4)):
            hall, names = hall_with_ring(many, houses)
            graph = waits(hall)
            self.assertEqual(graph, {name: names[(place + 1) % many] for place, name in enumerate(names)})
            self.assertEqual(list(graph), sorted(names))
            place = names.index(max(names))
            self.assertEqual(rings(graph), [tuple(names[place:] + names[:place])])
            self.assertEqual(ring_of(graph, names[1]), tuple(names[1:] + names[:1]))

    def test_drawn_halls_by_the_letter(self):
        met = 0
        for seed in range(40):
            houses = 1 + seed % 6
            hall = Hall(houses)
            deeds = Deeds(Drawn(seed), hall, keys_for(houses, 2 + seed % 4), stops=seed % 4)
            for _ in range(150):
                deed = deeds.next()
                if deed[0] != "deliver" or hall.is_up(hall.network.message(deed[1])[1]):
                    if deed[0] not in ("begin", "push") or hall.is_up(deed[1]):
                        getattr(hall, deed[0])(*deed[1:])
                found = waits(hall)
                self.assertEqual(found, by_the_letter(hall))
                self.assertEqual(list(found), sorted(found))
                met += len(found)
        self.assertGreater(met, 500)


def ring_from(names):
    """Return the graph of a ring of these transactions, each of which waits for the next one."""
    return {name: names[place - len(names) + 1] for place, name in enumerate(names)}


def ring_by_the_letter(graph, name):
    """Follow the waits for as many steps as the graph is long."""
    path = [name]
    while path[-1] in graph and len(path) <= len(graph):
        path.append(graph[path[-1]])
        if path[-1] == name:
            return tuple(path[:-1])
    return ()


class RingsCase(unittest.TestCase):
    def check(self, graph, found):
        """Check the rings of a graph, and the ring of each transaction that it names."""
        before = list(graph.items())
        self.assertEqual(rings(graph), found)
        self.assertIs(type(rings(graph)), list)
        in_rings = {name: ring[place:] + ring[:place] for ring in found for place, name in enumerate(ring)}
        for name in set(graph) | set(graph.values()):
            self.assertEqual(ring_of(graph, name), in_rings.get(name, ()))
            self.assertIs(type(ring_of(graph, name)), tuple)
        self.assertEqual(list(graph.items()), before)


class RingsTest(RingsCase):
    def test_the_example_of_the_document(self):
        graph = {(1, 0): (2, 0), (2, 0): (1, 1), (1, 1): (1, 0), (3, 3): (2, 0)}
        self.assertEqual(ring_of(graph, (1, 0)), ((1, 0), (2, 0), (1, 1)))
        self.assertEqual(ring_of(graph, (3, 3)), ())
        self.assertEqual(rings(graph), [((2, 0), (1, 1), (1, 0))])

    def test_without_a_ring(self):
        self.check({}, [])
        self.check({(1, 0): (2, 0)}, [])
        self.check({(1, 0): (2, 0), (2, 0): (3, 0), (4, 0): (3, 0), (3, 0): (1, 5)}, [])
        self.check({(3, 0): (1, 5), (2, 0): (3, 0), (1, 0): (2, 0)}, [])

    def test_rings_of_two(self):
        self.check({(1, 0): (2, 0), (2, 0): (1, 0)}, [((2, 0), (1, 0))])
        self.check({(1, 1): (1, 0), (1, 0): (1, 1)}, [((1, 1), (1, 0))])
        self.check({(2, 0): (10, 0), (10, 0): (2, 0)}, [((10, 0), (2, 0))])

    def test_each_order_of_a_ring_and_of_its_entries(self):
        self.check(ring_from([(1, 0), (2, 0), (3, 0)]), [((3, 0), (1, 0), (2, 0))])
        self.check(ring_from([(1, 0), (3, 0), (2, 0)]), [((3, 0), (2, 0), (1, 0))])
        names = [(1, 2), (4, 0), (1, 0), (3, 3), (2, 1)]
        for place in range(5):
            turned = names[place:] + names[:place]
            self.check(ring_from(turned), [((4, 0), (1, 0), (3, 3), (2, 1), (1, 2))])
            graph = {name: ring_from(names)[name] for name in sorted(turned, reverse=place % 2 == 0)}
            self.check(graph, [((4, 0), (1, 0), (3, 3), (2, 1), (1, 2))])

    def test_several_rings_by_ascending_tuples(self):
        one = ring_from([(5, 0), (1, 0)])
        two = ring_from([(3, 0), (2, 0), (4, 0)])
        three = ring_from([(4, 1), (2, 1)])
        found = [((4, 0), (3, 0), (2, 0)), ((4, 1), (2, 1)), ((5, 0), (1, 0))]
        self.check({**one, **two, **three}, found)
        self.check({**three, **two, **one}, found)
        self.check({**two, **three, **one}, found)

    def test_chains_that_lead_into_a_ring(self):
        ring = ring_from([(3, 0), (1, 0), (2, 0)])
        chain = {(9, 0): (8, 0), (8, 0): (1, 0), (7, 0): (8, 0), (1, 1): (2, 0), (1, 2): (1, 1)}
        self.check({**ring, **chain}, [((3, 0), (1, 0), (2, 0))])
        self.check({**chain, **ring}, [((3, 0), (1, 0), (2, 0))])
        other = ring_from([(6, 6), (5, 5)])
        more = {(5, 1): (6, 6), (6, 1): (5, 1), (4, 4): (4, 5)}
        self.check({**more, **chain, **other, **ring}, [((3, 0), (1, 0), (2, 0)), ((6, 6), (5, 5))])

    def test_a_transaction_that_is_not_in_the_graph(self):
        graph = ring_from([(3, 0), (1, 0)])
        for name in ((2, 0), (1, 3), (3, 1), (4, 0)):
            self.assertEqual(ring_of(graph, name), ())
            self.assertEqual(ring_of({}, name), ())
        self.assertEqual(ring_of({(1, 0): (2, 0)}, (2, 0)), ())

    def test_long_rings_and_chains(self):
        for many in (1000, 5000):
            names = [(1 + (7 * number) % many, 2) for number in range(many)]
            place = names.index((many, 2))
            ring = tuple(names[place:] + names[:place])
            chain = {(number, 3): (number + 1, 3) for number in range(1, many)}
            into = {**chain, (many, 3): names[5], **ring_from(names)}
            self.assertEqual(rings(into), [ring])
            self.assertEqual(ring_of(into, (1, 3)), ())
            self.assertEqual(ring_of(into, ring[0]), ring)
            self.assertEqual(ring_of(into, ring[9]), ring[9:] + ring[:9])
            self.assertEqual((rings(chain), ring_of(chain, (1, 3))), ([], ()))
            self.assertEqual(ring_of({**chain, (many, 3): (1, 3)}, (1, 3)), tuple(chain) + ((many, 3),))

    def test_many_rings(self):
        graph = {}
        for number in range(1, 2001, 2):
            graph[(number, 0)] = (number + 1, 0)
            graph[(number + 1, 0)] = (number, 0)
        self.assertEqual(rings(graph), [((number + 1, 0), (number, 0)) for number in range(1, 2001, 2)])

    def test_drawn_graphs_by_the_letter(self):
        for seed in range(200):
            drawn = Drawn(seed)
            names = [(1 + number // 3, number % 3) for number in range(2 + drawn.below(14))]
            graph = {}
            for _ in range(drawn.below(2 * len(names))):
                name, other = drawn.one_of(names), drawn.one_of(names)
                if name != other:
                    graph[name] = other
            every = {ring_by_the_letter(graph, name) for name in graph} - {()}
            self.check(graph, sorted(ring for ring in every if ring[0] == max(ring)))

    def test_the_list_of_rings_may_be_changed(self):
        graph = ring_from([(3, 0), (1, 0)])
        rings(graph).clear()
        self.check(graph, [((3, 0), (1, 0))])


if __name__ == "__main__":
    unittest.main()
