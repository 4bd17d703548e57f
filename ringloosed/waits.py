"""Which transactions of a hall wait for each other, and rings of such waits (points 9.1 to 9.3)."""

from ringloosed.program import keys_of


def stands_before(hall, transaction):
    """Return the key before which a transaction stands, None if it stands before none."""
    program, attempt, state = hall.trip(transaction)
    if state != "going":
        return None
    for key in keys_of(program):
        if hall.lock(key)[2] != (transaction, attempt):
            return key
    return None


def waits_for(hall, transaction):
    """Return the transaction for which a transaction waits, None if there is none."""
    key = stands_before(hall, transaction)
    if key is None:
        return None
    who = hall.lock(key)[2]
    if who is None:
        return None
    holder, attempt = who
    # Who holds a key with an earlier attempt only, the transaction itself among them, does not hold it.
    if hall.trip(holder)[1] != attempt:
        return None
    return holder


def waits(hall):
    """Return the dict from each transaction that waits to the one for which it waits, the eldest first."""
    found = {}
    for transaction in hall.transactions():
        holder = waits_for(hall, transaction)
        if holder is not None:
            found[transaction] = holder
    return found


def ring_of(graph, transaction):
    """Return the ring in which a transaction stands, beginning with it; () if it stands in none."""
    passed = {}
    at = transaction
    while at in graph and at not in passed:
        passed[at] = True
        at = graph[at]
    if at != transaction:
        return ()
    return tuple(passed)


def rings(graph):
    """Return the list of all rings, each from its youngest on, by ascending tuples."""
    found = []
    # To each transaction that was passed, where the walk began that passed it first.
    starts = {}
    for start in graph:
        at = start
        while at in graph and at not in starts:
            starts[at] = start
            at = graph[at]
        # A walk that ends at what it has passed itself has gone round a ring that no earlier walk has met.
        if at in starts and starts[at] == start:
            found.append(ring_of(graph, max(ring_of(graph, at))))
    return sorted(found)
