"""The audit of a book of events: what the commits tell against a replay of their programs (part 10)."""

from ringloosed.program import keys_of, run_program


def replay(events):
    """Run the programs in the order of their commits; return the dicts of their outcomes and of the values."""
    programs = {}
    outcomes = {}
    values = {}
    for event in events:
        word, transaction = event[:2]
        if word == "began":
            programs[transaction] = event[2]
        elif word == "committed" and transaction in programs and transaction not in outcomes:
            program = programs[transaction]
            done, read, behind = run_program(program, {key: values.get(key, 0) for key in keys_of(program)})
            outcomes[transaction] = (done, tuple(read))
            for key in behind:
                values[key] = behind[key]
    return outcomes, values


def _finding_for_ended(transaction, earlier):
    if ("committed", transaction) not in earlier:
        return "early"
    if ("ended", transaction) in earlier:
        return "twice"
    return None


def _finding(event, earlier, outcomes):
    """Return the word of the finding for an event, None if there is none.

    `earlier` has the pairs of word and transaction of all earlier events.
    """
    word, transaction = event[:2]
    if word == "began":
        return "twice" if (word, transaction) in earlier else None
    if ("began", transaction) not in earlier:
        return "unknown"
    if word == "ended":
        return _finding_for_ended(transaction, earlier)
    if ("committed", transaction) in earlier:
        return "twice"
    if word == "committed" and event[3:] != outcomes[transaction]:
        return "read"
    return None


def audit(events):
    """Return the list of the findings (word, place) of an audit of a list of events."""
    outcomes = replay(events)[0]
    earlier = {}
    findings = []
    for place, event in enumerate(events):
        word = _finding(event, earlier, outcomes)
        if word is not None:
            findings.append((word, place))
        earlier[event[:2]] = True
    return findings
