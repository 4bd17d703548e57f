"""Bodies of messages, and messages (points 7.1 and 7.2)."""

import unittest

from ringloosed.messages import is_body, is_message

TOP, TOP_VALUE = 10 ** 12, 10 ** 15

GOOD_MARK = ((1, 0), 1, (0, "a"), 1)

# Marks in ascending order; each differs from the one before in a later item than the next one does.
ASCENDING = (
    ((1, 0), 1, (0, "a"), 1),
    ((1, 0), 1, (0, "a"), 2),
    ((1, 0), 1, (0, "b"), 1),
    ((1, 0), 1, (1, "a"), 1),
    ((1, 0), 2, (0, "a"), 1),
    ((1, 1), 1, (0, "a"), 1),
    ((2, 0), 1, (0, "a"), 1),
    ((10, 0), 1, (0, "a"), 1),
)

NO_NUMBERS = (True, False, None, "1", "", b"1", 1.0, (), (1,), [1], {}, {1}, object())
COUNTS = ((1, 2, TOP), (0, -1, TOP + 1) + NO_NUMBERS)
NUMBERS = ((0, 1, TOP), (-1, TOP + 1) + NO_NUMBERS)
VALUES = ((0, -1, 1, TOP, TOP_VALUE, -TOP_VALUE), (TOP_VALUE + 1, -TOP_VALUE - 1) + NO_NUMBERS)
NO_PAIRS = ((), (1,), (0, "a", 0), (1, 0, 0), None, True, False, 0, 1, "a", "ab", b"ab", {}, {1: 0}, object())
TRANSACTIONS = (
    ((1, 0), (TOP, TOP), (1, 1)),
    NO_PAIRS + ([1, 0], (0, 0), (-1, 0), (TOP + 1, 0), (1, -1), (1, TOP + 1), (True, 0), (1, False), (1, True),
                (None, 0), (1, None), ("1", 0), (1, "0"), (1.0, 0), ((1, 0), 1), (1, "a"), (0, "a"), ([1], 0)),
)
KEYS = (
    ((0, "a"), (TOP, "z" * 12), (5, "key")),
    NO_PAIRS + ([0, "a"], (-1, "a"), (TOP + 1, "a"), (True, "a"), (False, "a"), (None, "a"), ("a", 0), ("0", "a"),
                (0, ""), (0, "z" * 13), (0, "A"), (0, "a1"), (0, "a b"), (0, "a\n"), (0, b"a"), (0, None), (0, 1),
                (0, ("a",)), (0, ["a"]), (0.0, "a"), (1, 0)),
)
MARKS = (
    (ASCENDING, ASCENDING[:1], ASCENDING[3:5], (((TOP, TOP), TOP, (TOP, "z" * 12), TOP),), tuple(ASCENDING[1::2])),
    ((), None, True, False, 0, "", "a", GOOD_MARK, list(ASCENDING), [], [GOOD_MARK], {}, {GOOD_MARK: 1}, {GOOD_MARK},
     ASCENDING[::-1], ASCENDING[:2] + ASCENDING[1:], (GOOD_MARK, GOOD_MARK), ASCENDING + ASCENDING[:1],
     ASCENDING[-1:] + ASCENDING[:-1], ASCENDING[1::-1], ASCENDING[2:0:-1], ASCENDING[3:1:-1], ASCENDING[4:2:-1],
     ASCENDING[5:3:-1], ASCENDING[6:4:-1], ASCENDING[7:5:-1], (ASCENDING,), (None,), (GOOD_MARK, None),
     (None, GOOD_MARK), (GOOD_MARK, 1), (list(GOOD_MARK),), (GOOD_MARK[:3],), (GOOD_MARK + (1,),), ((),),
     (GOOD_MARK, ()), (((0, 0), 1, (0, "a"), 1),), (((1, 0), 0, (0, "a"), 1),), (((1, 0), 1, (0, "A"), 1),),
     (((1, 0), 1, (0, "a"), 0),), (((1, 0), 1, (0, "a"), True),), (((1, 0), True, (0, "a"), 1),),
     ASCENDING[:4] + (((1, 0), 2, (0, "a"), TOP + 1),), ASCENDING[:4] + (((1, 0), 2, (-1, "a"), 1),)),
)

KINDS = {
    "ask": (TRANSACTIONS, COUNTS, KEYS),
    "free": (TRANSACTIONS, COUNTS, KEYS),
    "freed": (TRANSACTIONS, COUNTS, KEYS),
    "finished": (TRANSACTIONS, COUNTS, KEYS),
    "finish": (TRANSACTIONS, COUNTS, KEYS, VALUES),
    "granted": (TRANSACTIONS, COUNTS, KEYS, COUNTS, VALUES),
    "behind": (TRANSACTIONS, COUNTS, KEYS, COUNTS, TRANSACTIONS, COUNTS),
    "call": (TRANSACTIONS, COUNTS, TRANSACTIONS, COUNTS, KEYS, COUNTS),
    "marks": (TRANSACTIONS, COUNTS, KEYS, COUNTS, MARKS),
}

WORDS = (
    "", "as", "asks", "Ask", "ASK", " ask", "ask ", "ask\n", "frees", "finishe", "grant", "grants", "calls", "mark",
    "began", "committed", "ended", "gave way", "begin", "push", "deliver", "read", "put", "a",
)
NO_WORDS = (None, True, False, 0, 1, -1, 4, 1.5, b"ask", (), ("ask",), ["ask"], {"ask": 1}, {"ask"}, object(), str)

NO_TUPLES = (None, True, False, 0, 1, -1, 1.5, "", "ask", "marks", b"ask", [], {}, set(), object(), tuple, range(4))


def body_of(word):
    """Return a body of a kind, with the first good things for its items."""
    return (word,) + tuple(good[0] for good, _ in KINDS[word])


def exchanged(items, place, thing):
    return items[:place] + (thing,) + items[place + 1:]


class BodyCase(unittest.TestCase):
    def check(self, thing, expected):
        self.assertIs(is_body(thing), expected, repr(thing))
        # The sender and the receiver are right, so that it is up to the body.
        self.assertIs(is_message((0, 1, thing)), expected, repr(thing))


class BodyTest(BodyCase):
    def test_each_kind(self):
        for word in KINDS:
            self.check(body_of(word), True)

    def test_the_bodies_of_the_examples(self):
        for body in (
            ("granted", (1, 4), 1, (0, "a"), 1, 0), ("behind", (2, 5), 1, (0, "a"), 1, (1, 4), 1),
            ("finish", (1, 4), 1, (0, "a"), 8), ("finished", (1, 4), 1, (0, "a")), ("ask", (1, 2), 1, (0, "a")),
            ("call", (4, 1), 2, (1, 2), 1, (1, "b"), 3), ("free", (1, 2), 1, (0, "a")),
            ("freed", (1, 2), 1, (0, "a")), ("marks", (1, 2), 1, (1, "b"), 3, (((4, 1), 2, (0, "a"), 7),)),
        ):
            self.check(body, True)

    def test_each_item_at_its_bounds(self):
        for word, items in KINDS.items():
            for place, (good, _) in enumerate(items, 1):
                for thing in good:
                    self.check(exchanged(body_of(word), place, thing), True)

    def test_each_item_beyond_its_bounds_or_another_thing(self):
        for word, items in KINDS.items():
            for place, (_, bad) in enumerate(items, 1):
                for thing in bad:
                    self.check(exchanged(body_of(word), place, thing), False)

    def test_all_items_at_their_last_good_things(self):
        for word, items in KINDS.items():
            self.check((word,) + tuple(good[-1] for good, _ in items), True)

    def test_one_item_fewer(self):
        for word in KINDS:
            body = body_of(word)
            for place in range(len(body)):
                self.check(body[:place] + body[place + 1:], False)

    def test_the_word_alone_and_the_first_items_alone(self):
        for word in KINDS:
            body = body_of(word)
            for many in range(len(body)):
                self.check(body[:many], False)

    def test_one_item_more(self):
        more = (None, 0, 1, True, "a", (), (1, 0), (0, "a"), GOOD_MARK, (GOOD_MARK,))
        for word in KINDS:
            body = body_of(word)
            for thing in more:
                self.check(body + (thing,), False)
            # A turn more or another item twice does not fit either.
            for place in range(len(body)):
                self.check(body[:place] + body[place:place + 1] + body[place:], False)

    def test_items_in_another_order(self):
        for word in KINDS:
            body = body_of(word)
            self.check(body[::-1], False)
            self.check(body[1:] + body[:1], False)
            self.check(exchanged(exchanged(body, 1, body[2]), 2, body[1]), False)
            self.check(exchanged(exchanged(body, 1, body[3]), 3, body[1]), word == "call")

    def test_the_items_of_one_kind_behind_the_word_of_another(self):
        alike = ("ask", "free", "freed", "finished")
        for word in KINDS:
            for other in KINDS:
                expected = word == other or (word in alike and other in alike)
                self.check((word,) + body_of(other)[1:], expected)

    def test_unknown_words(self):
        for word in KINDS:
            for other in WORDS:
                self.check((other,) + body_of(word)[1:], False)

    def test_first_items_that_are_no_words(self):
        for word in KINDS:
            for other in NO_WORDS:
                self.check((other,) + body_of(word)[1:], False)

    def test_what_is_no_tuple(self):
        self.check((), False)
        for thing in NO_TUPLES:
            self.check(thing, False)
            self.check((thing,), False)
        for word in KINDS:
            self.check(list(body_of(word)), False)
            self.check((body_of(word),), False)
            self.check(dict.fromkeys(body_of(word)), False)

    def test_the_house_of_a_key_may_be_any_number(self):
        for house in (0, 6, 7, TOP):
            self.check(("ask", (1, house), 1, (house, "a")), True)

    def test_many_marks(self):
        many = tuple(((number, 0), 1, (0, "a"), 1) for number in range(1, 1001))
        head = body_of("marks")[:-1]
        self.check(head + (many,), True)
        self.check(head + (many[:500] + many[501:],), True)
        self.check(head + (many[:500] + many[499:],), False)
        self.check(head + (many[:500] + (many[501], many[500]) + many[502:],), False)

    def test_the_own_mark_may_be_told(self):
        mark = ((3, 1), 2, (0, "a"), 4)
        self.check(("marks",) + mark + ((mark,),), True)

    def test_what_was_passed_stays(self):
        body = ["marks", (1, 0), 1, (0, "a"), 1, [GOOD_MARK]]
        is_body(body)
        is_body(tuple(body))
        is_message([0, 1, body])
        self.assertEqual(body, ["marks", (1, 0), 1, (0, "a"), 1, [GOOD_MARK]])


class MessageTest(unittest.TestCase):
    def check(self, thing, expected):
        self.assertIs(is_message(thing), expected, repr(thing))

    def test_each_kind(self):
        for word in KINDS:
            self.check((0, 1, body_of(word)), True)
            self.check((3, 3, body_of(word)), True)

    def test_senders_and_receivers(self):
        good, bad = NUMBERS
        for thing in good:
            self.check((thing, 1, body_of("ask")), True)
            self.check((1, thing, body_of("ask")), True)
        for thing in bad:
            self.check((thing, 1, body_of("ask")), False)
            self.check((1, thing, body_of("ask")), False)

    def test_the_receiver_need_not_be_the_house_that_is_meant(self):
        self.check((8, 9, ("ask", (1, 0), 1, (0, "a"))), True)

    def test_fewer_and_more_items(self):
        body = body_of("ask")
        for thing in ((), (0,), (0, 1), (0, body), (1, body), (0, 1, 2, body), (0, 1, body, body), (0, 1, body, None)):
            self.check(thing, False)
        self.check((body, 0, 1), False)
        self.check((0, 1) + body, False)

    def test_what_is_no_tuple(self):
        for thing in NO_TUPLES:
            self.check(thing, False)
        self.check([0, 1, body_of("ask")], False)
        self.check({0: 1}, False)
        self.check(body_of("ask"), False)

    def test_bodies_that_are_none(self):
        for thing in NO_TUPLES:
            self.check((0, 1, thing), False)
        self.check((0, 1, ()), False)
        self.check((0, 1, list(body_of("ask"))), False)
        self.check((0, 1, (0, 1, body_of("ask"))), False)


if __name__ == "__main__":
    unittest.main()
