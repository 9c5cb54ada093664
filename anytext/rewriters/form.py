"""The least form of a rewriter."""

from anytext.machines.blocks import block_numbers, first_states
from anytext.machines.ways import ways_back
from anytext.rewriters.beginnings import common_beginning
from anytext.rewriters.rewriter import Rewriter
from anytext.rewriters.states import live_states, sources_of_all


def least_form(rewriter):
    """Returns the least form of the rewriter."""
    live = live_states(rewriter)
    if not live[0]:
        return Rewriter(rewriter.letters, "", [None], [[None for _ in rewriter.letters]])
    return _merged(_hastened(_live_part(rewriter, live)))


def _live_part(rewriter, live):
    """Returns the rewriter without all that leads to no live state.

    Its states are numbered in the order of the least texts that lead to them.
    """
    numbers = {0: 0}
    states = [0]
    table = []
    while len(table) < len(states):
        row = []
        for way in rewriter.table[states[len(table)]]:
            if way is None or not live[way[0]]:
                row.append(None)
            else:
                if way[0] not in numbers:
                    numbers[way[0]] = len(states)
                    states.append(way[0])
                row.append((numbers[way[0]], way[1]))
        table.append(row)
    return Rewriter(rewriter.letters, rewriter.lead, [rewriter.finals[state] for state in states], table)


def _hastened(rewriter):
    """Returns the rewriter, all of whose states are live, writing everything as early as it can."""
    coming = _common_beginnings(rewriter)
    finals = []
    table = []
    for state, row in enumerate(rewriter.table):
        final = rewriter.finals[state]
        written = len(coming[state])
        finals.append(None if final is None else final[written:])
        table.append([None if way is None else (way[0], (way[1] + coming[way[0]])[written:]) for way in row])
    return Rewriter(rewriter.letters, rewriter.lead + coming[0], finals, table)


def _common_beginnings(rewriter):
    """Returns for each state the longest common beginning of all that may be written from there on."""
    sources = sources_of_all(rewriter)
    # None stands for a state of which no such text is known yet. The known ones only become shorter.
    found = [None for _ in rewriter.finals]
    waiting = list(range(len(found)))
    while waiting:
        changed = []
        for state in waiting:
            texts = _written_from(rewriter, state, found)
            if texts and common_beginning(texts) != found[state]:
                found[state] = common_beginning(texts)
                changed.append(state)
        waiting = sorted(set([source for state in changed for source in sources[state]]))
    return found


def _written_from(rewriter, state, coming):
    """Returns what each way and the end of the state write, with what comes behind it as far as that is known."""
    texts = [way[1] + coming[way[0]] for way in rewriter.table[state] if way is not None and coming[way[0]] is not None]
    if rewriter.finals[state] is not None:
        texts.append(rewriter.finals[state])
    return texts


def _merged(rewriter):
    """Returns the rewriter with one state for all states that write the same for the same texts."""
    kinds = []
    for final, row in zip(rewriter.finals, rewriter.table):
        kinds.append((final, tuple([None if way is None else way[1] for way in row])))
    sources = []
    for index in range(len(rewriter.letters)):
        sources.append(ways_back([[] if row[index] is None else [row[index][0]] for row in rewriter.table]))
    numbers = block_numbers(kinds, sources)
    firsts = first_states(numbers)
    table = []
    for state in firsts:
        table.append([None if way is None else (numbers[way[0]], way[1]) for way in rewriter.table[state]])
    return Rewriter(rewriter.letters, rewriter.lead, [rewriter.finals[state] for state in firsts], table)
