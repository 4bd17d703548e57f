"""How everything in a hall comes to its end (points 8.6 and 8.7)."""


def _clear(hall):
    """Start all houses that are down, and drop all messages."""
    for number in range(hall.houses):
        hall.start(number)
    for number in hall.network.numbers():
        hall.drop(number)


def _has_ended(hall, transaction):
    return hall.trip(transaction)[2] == "ended"


def _all_have_ended(hall):
    return all([_has_ended(hall, transaction) for transaction in hall.transactions()])


def _deliver_all(hall):
    """Deliver and drop the message with the least number until there is none."""
    while len(hall.network) > 0:
        # What is sent meanwhile has greater numbers than all of these.
        for number in hall.network.numbers():
            hall.deliver(number)
            hall.drop(number)


def settle(hall):
    """Settle a hall; return how many rounds were done."""
    _clear(hall)
    rounds = 0
    while not _all_have_ended(hall):
        rounds += 1
        for number in range(hall.houses):
            hall.push(number)
            _deliver_all(hall)
    return rounds
