"""What counts as a number, a name, a key and so on, up to a program (points 1.1 to 1.3).

Any object may be passed to these functions. They return True or False and raise nothing.
"""

MOST_NUMBER = 10 ** 12
MOST_VALUE = 10 ** 15
MOST_LETTERS = 12
MOST_STEPS = 12


def _is_between(thing, least, most):
    # The exact class is asked for: True and False are integers to Python,
    # and an object of another class may raise an error when it is compared.
    return type(thing) is int and least <= thing <= most


def _has_parts(thing, many):
    return type(thing) is tuple and len(thing) == many


def _is_count(thing):
    return _is_between(thing, 1, MOST_NUMBER)


def is_number(thing):
    """Tell whether the thing is a number."""
    return _is_between(thing, 0, MOST_NUMBER)


def is_integer(thing):
    """Tell whether the thing is an integer of a step."""
    return _is_between(thing, -MOST_NUMBER, MOST_NUMBER)


def is_value(thing):
    """Tell whether the thing is a value of a key."""
    return _is_between(thing, -MOST_VALUE, MOST_VALUE)


def is_name(thing):
    """Tell whether the thing is a name."""
    if type(thing) is not str or not 1 <= len(thing) <= MOST_LETTERS:
        return False
    # Not islower() or isalpha(): they also hold for letters beyond a to z.
    return all(["a" <= letter <= "z" for letter in thing])


def is_key(thing):
    """Tell whether the thing is a key: (house, name)."""
    return _has_parts(thing, 2) and is_number(thing[0]) and is_name(thing[1])


def is_transaction(thing):
    """Tell whether the thing is the name of a transaction: (number, house)."""
    return _has_parts(thing, 2) and _is_count(thing[0]) and is_number(thing[1])


def is_who(thing):
    """Tell whether the thing is a who: (transaction, attempt)."""
    return _has_parts(thing, 2) and is_transaction(thing[0]) and _is_count(thing[1])


def is_mark(thing):
    """Tell whether the thing is a mark: (transaction, attempt, key, turn)."""
    return _has_parts(thing, 4) and is_who(thing[:2]) and is_key(thing[2]) and _is_count(thing[3])


def is_step(thing):
    """Tell whether the thing is a step of a program."""
    if _has_parts(thing, 2):
        words = ("read", "store")
    elif _has_parts(thing, 3) and is_integer(thing[2]):
        words = ("put", "add", "need")
    else:
        return False
    return type(thing[0]) is str and thing[0] in words and is_key(thing[1])


def is_program(thing):
    """Tell whether the thing is a program: a tuple of 1 to 12 steps."""
    if type(thing) is not tuple or not 1 <= len(thing) <= MOST_STEPS:
        return False
    return all([is_step(step) for step in thing])
