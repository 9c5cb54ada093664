"""Ways from state to state. `nexts` has for each state the states to which it leads."""


def ways_back(nexts):
    """Returns for each state the states that lead to it, as often as they do."""
    found = [[] for _ in nexts]
    for state, afters in enumerate(nexts):
        for after in afters:
            found[after].append(state)
    return found


def reached(starts, nexts):
    """Tells for each state, in a list, whether it is one of the starts or some way leads from one of them to it."""
    found = [False] * len(nexts)
    waiting = list(starts)
    for state in starts:
        found[state] = True
    while waiting:
        state = waiting.pop()
        for after in nexts[state]:
            if not found[after]:
                found[after] = True
                waiting.append(after)
    return found
