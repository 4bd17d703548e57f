"""Programs: the keys that they name, and what a run of them gives (points 1.3 and 1.4)."""


def keys_of(program):
    """Return the list of the keys of a program, each once, in the order of their first use."""
    found = {}
    for step in program:
        found[step[1]] = True
    return list(found)


def _value_behind(step, value, read):
    """Return the value of a step's key behind the step, if the step is one that may change it."""
    if step[0] == "put":
        return step[2]
    if step[0] == "add":
        return value + step[2]
    return read[-1] if read else 0


def run_program(program, values):
    """Run a program; return whether it is done, the list of what was read, and the values of its keys."""
    at_first = {key: values[key] for key in keys_of(program)}
    now = {key: at_first[key] for key in at_first}
    read = []
    for step in program:
        key = step[1]
        if step[0] == "read":
            read.append(now[key])
        elif step[0] != "need":
            now[key] = _value_behind(step, now[key], read)
        elif now[key] < step[2]:
            return False, read, at_first
    return True, read, now
