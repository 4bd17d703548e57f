"""The network (point 7.2)."""

import unittest

from ringloosed.errors import BadValue, Unknown
from ringloosed.network import Network

ASK = ("ask", (1, 0), 1, (1, "a"))
FREED = ("freed", (2, 1), 3, (0, "b"))
MARKS = ("marks", (2, 1), 3, (0, "b"), 1, (((5, 1), 1, (0, "c"), 2), ((5, 1), 1, (0, "c"), 3)))


def with_many(many):
    """Return a network to which so many messages were sent, each from another sender."""
    network = Network()
    for sender in range(many):
        network.send(sender, 1, ASK)
    return network


def shown(network):
    messages = [(number, network.message(number)) for number in network.numbers()]
    return (network.sent, messages, len(network), list(network))


class NetworkCase(unittest.TestCase):
    def holds(self, network, sent, numbers):
        self.assertEqual(network.sent, sent)
        self.assertEqual(network.numbers(), numbers)
        self.assertIs(type(network.numbers()), list)
        self.assertEqual(len(network), len(numbers))
        self.assertEqual(list(network), numbers)
        self.assertEqual([number for number in network], numbers)

    def refuses(self, network, error, deed, *arguments):
        before = shown(network)
        with self.assertRaises(error):
            deed(*arguments)
        self.assertEqual(shown(network), before)


class SendTest(NetworkCase):
    def test_a_new_network(self):
        self.holds(Network(), 0, [])

    def test_the_example_of_the_document(self):
        network = Network()
        self.assertEqual(network.send(0, 1, ("ask", (1, 0), 1, (1, "a"))), 1)
        self.assertEqual(network.message(1), (0, 1, ("ask", (1, 0), 1, (1, "a"))))
        self.assertEqual((network.numbers(), len(network)), ([1], 1))

    def test_numbers_from_one_on(self):
        network = Network()
        for number in range(1, 13):
            self.assertEqual(network.send(0, number, ASK), number)
            self.holds(network, number, list(range(1, number + 1)))
        for number in range(1, 13):
            self.assertEqual(network.message(number), (0, number, ASK))

    def test_what_a_message_is(self):
        network = Network()
        network.send(4, 10 ** 12, FREED)
        network.send(3, 3, MARKS)
        self.assertEqual(network.message(1), (4, 10 ** 12, FREED))
        self.assertEqual(network.message(2), (3, 3, MARKS))
        self.assertIs(type(network.message(1)), tuple)

    def test_the_same_message_again_is_another_one(self):
        network = Network()
        self.assertEqual([network.send(0, 1, ASK) for _ in range(3)], [1, 2, 3])
        network.drop(2)
        self.holds(network, 3, [1, 3])
        self.assertEqual((network.message(1), network.message(3)), ((0, 1, ASK), (0, 1, ASK)))

    def test_senders_and_receivers_that_are_none(self):
        network = with_many(2)
        bad = (-1, 10 ** 12 + 1, True, False, None, "1", "", 1.0, (), (1,), [1], {}, {1}, object())
        for thing in bad:
            self.refuses(network, BadValue, network.send, thing, 1, ASK)
            self.refuses(network, BadValue, network.send, 1, thing, ASK)
        self.assertEqual(network.send(0, 1, ASK), 3)

    def test_bodies_that_are_none(self):
        network = with_many(2)
        bad = (
            None, True, 0, "ask", (), [], {}, set(), object(), list(ASK), ASK[:3], ASK + (1,), ("asks",) + ASK[1:],
            (["ask"],) + ASK[1:], ("ask", (0, 0), 1, (1, "a")), ("ask", [1, 0], 1, (1, "a")),
            ("ask", (1, 0), True, (1, "a")), ("ask", (1, 0), 1, (1, "")), MARKS[:5] + ((),),
            MARKS[:5] + (list(MARKS[5]),), MARKS[:5] + (MARKS[5][::-1],), MARKS[:5] + (MARKS[5][:1] * 2,), (0, 1, ASK),
            ("began", (1, 0), (("read", (0, "a")),)),
        )
        for body in bad:
            self.refuses(network, BadValue, network.send, 0, 1, body)
        self.holds(network, 2, [1, 2])
        self.assertEqual(network.send(0, 1, ASK), 3)

    def test_a_new_network_stays_new_when_it_refuses(self):
        network = Network()
        self.refuses(network, BadValue, network.send, 0, 1, None)
        self.holds(network, 0, [])
        self.assertEqual(network.send(0, 1, ASK), 1)


class DropTest(NetworkCase):
    def test_a_message_stays_when_it_is_looked_at(self):
        network = with_many(3)
        for _ in range(3):
            self.assertEqual(network.message(2), (1, 1, ASK))
            self.holds(network, 3, [1, 2, 3])

    def test_a_message_stays_until_it_is_dropped(self):
        network = with_many(5)
        self.assertIsNone(network.drop(3))
        self.holds(network, 5, [1, 2, 4, 5])
        self.assertIsNone(network.drop(1))
        self.holds(network, 5, [2, 4, 5])
        self.assertIsNone(network.drop(5))
        self.holds(network, 5, [2, 4])
        self.assertEqual([network.message(number) for number in (2, 4)], [(1, 1, ASK), (3, 1, ASK)])
        network.drop(4)
        network.drop(2)
        self.holds(network, 5, [])

    def test_numbers_are_never_used_again(self):
        network = with_many(3)
        network.drop(3)
        self.assertEqual(network.send(7, 1, ASK), 4)
        network.drop(1)
        self.assertEqual(network.send(8, 1, ASK), 5)
        self.holds(network, 5, [2, 4, 5])
        for number in (2, 4, 5):
            network.drop(number)
        self.holds(network, 5, [])
        self.assertEqual(network.send(9, 1, ASK), 6)
        self.holds(network, 6, [6])
        self.assertEqual(network.message(6), (9, 1, ASK))

    def test_numbers_that_are_not_there(self):
        network = with_many(4)
        network.drop(2)
        network.drop(4)
        for number in (0, -1, -2, -3, -4, 2, 4, 5, 6, 10 ** 12, -10 ** 12):
            self.refuses(network, Unknown, network.message, number)
            self.refuses(network, Unknown, network.drop, number)
        self.holds(network, 4, [1, 3])
        self.assertEqual(network.send(0, 1, ASK), 5)

    def test_numbers_of_a_new_network(self):
        network = Network()
        for number in (-1, 0, 1):
            self.refuses(network, Unknown, network.message, number)
            self.refuses(network, Unknown, network.drop, number)
        self.holds(network, 0, [])

    def test_a_number_is_dropped_once(self):
        network = with_many(2)
        network.drop(1)
        self.refuses(network, Unknown, network.drop, 1)
        self.refuses(network, Unknown, network.message, 1)


class IterationTest(NetworkCase):
    def test_ascending(self):
        network = with_many(30)
        for number in range(1, 31):
            if number % 7 in (2, 3, 5):
                network.drop(number)
        left = [number for number in range(1, 31) if number % 7 not in (2, 3, 5)]
        self.holds(network, 30, left)
        network.send(0, 1, FREED)
        self.holds(network, 31, left + [31])

    def test_again_and_again(self):
        network = with_many(4)
        pairs = [(one, two) for one in network for two in network]
        self.assertEqual(pairs, [(one, two) for one in (1, 2, 3, 4) for two in (1, 2, 3, 4)])
        self.holds(network, 4, [1, 2, 3, 4])


class AloneTest(NetworkCase):
    def test_a_returned_list_may_be_changed(self):
        network = with_many(3)
        numbers = network.numbers()
        numbers.append(9)
        numbers.remove(1)
        self.assertIsNot(network.numbers(), network.numbers())
        self.holds(network, 3, [1, 2, 3])

    def test_a_returned_list_stays(self):
        network = with_many(3)
        numbers = network.numbers()
        network.drop(2)
        network.send(0, 1, ASK)
        self.assertEqual(numbers, [1, 2, 3])

    def test_two_networks(self):
        one, two = with_many(2), with_many(3)
        one.drop(1)
        one.send(5, 5, FREED)
        self.holds(two, 3, [1, 2, 3])
        self.holds(one, 3, [2, 3])
        self.assertEqual((one.message(3), two.message(3)), ((5, 5, FREED), (2, 1, ASK)))
        self.holds(Network(), 0, [])


if __name__ == "__main__":
    unittest.main()
