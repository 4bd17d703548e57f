"""What counts as the body of a message, and as a message (points 7.1 and 7.2).

Any object may be passed to these functions. They return True or False and raise nothing.
"""

from ringloosed.values import is_key, is_mark, is_number, is_value, is_who

LENGTHS = {
    "ask": 4,
    "free": 4,
    "freed": 4,
    "finished": 4,
    "finish": 5,
    "granted": 6,
    "behind": 7,
    "call": 7,
    "marks": 6,
}


def _are_marks(thing):
    if type(thing) is not tuple or thing == ():
        return False
    # Only marks can be compared with each other.
    if not all([is_mark(mark) for mark in thing]):
        return False
    return all([mark < follower for mark, follower in zip(thing, thing[1:])])


def _are_items(word, items):
    """Tell whether the items behind a word are of the right kinds; there are as many as the word wants."""
    if word == "finish":
        return is_who(items[:2]) and is_key(items[2]) and is_value(items[3])
    if word == "granted":
        return is_mark(items[:4]) and is_value(items[4])
    if word == "behind":
        return is_mark(items[:4]) and is_who(items[4:])
    if word == "call":
        return is_who(items[:2]) and is_mark(items[2:])
    if word == "marks":
        return is_mark(items[:4]) and _are_marks(items[4])
    return is_who(items[:2]) and is_key(items[2])


def is_body(thing):
    """Tell whether the thing is the body of a message."""
    if type(thing) is not tuple or thing == () or type(thing[0]) is not str:
        return False
    word = thing[0]
    return LENGTHS.get(word, 0) == len(thing) and _are_items(word, thing[1:])


def is_message(thing):
    """Tell whether the thing is a message: (sender, receiver, body)."""
    if type(thing) is not tuple or len(thing) != 3:
        return False
    return is_number(thing[0]) and is_number(thing[1]) and is_body(thing[2])
