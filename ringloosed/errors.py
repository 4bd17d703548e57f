"""The errors that the program raises."""


class LoosedError(ValueError):
    """The base class of all errors that the program raises."""


class BadValue(LoosedError):
    """Something that was passed is not what it has to be."""


class Down(LoosedError):
    """The house that is meant is down."""


class Unknown(LoosedError):
    """What is meant does not exist."""
