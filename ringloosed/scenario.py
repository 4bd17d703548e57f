"""Scenarios: lists of deeds that are done in a hall (point 8.5)."""

from ringloosed.errors import BadValue, Down, Unknown

LENGTHS = {"begin": 3, "push": 2, "deliver": 2, "drop": 2, "stop": 2, "start": 2}


def _is_deed(deed):
    # A first item that is no string may have no hash, or may be equal to a word.
    if deed == () or type(deed[0]) is not str:
        return False
    return LENGTHS.get(deed[0], 0) == len(deed)


def _do(hall, deed):
    """Do a deed and return what the method of the hall returns."""
    word, number = deed[:2]
    if word == "begin":
        return hall.begin(number, deed[2])
    if word == "push":
        return hall.push(number)
    if word == "deliver":
        return hall.deliver(number)
    if word == "drop":
        return hall.drop(number)
    if word == "stop":
        return hall.stop(number)
    return hall.start(number)


def perform(hall, deed):
    """Do a deed of a scenario; return ("done", result) or ("refused", name of the error)."""
    if not _is_deed(deed):
        return "refused", "BadValue"
    try:
        return "done", _do(hall, deed)
    except Unknown:
        return "refused", "Unknown"
    except Down:
        return "refused", "Down"
    except BadValue:
        return "refused", "BadValue"


def run(hall, deeds):
    """Do the deeds of a list in order; return the list of their outcomes."""
    return [perform(hall, deed) for deed in deeds]
