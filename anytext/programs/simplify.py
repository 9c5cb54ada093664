"""Simplifying programs."""

from anytext.programs.program import Program, names_given, names_read
from anytext.rewriters.images import domain


def simplified(book, program):
    """Returns a program that does the same, without copies and idle lines."""
    lines, result = _without_copies(program)
    return Program(program.inputs, _without_idle_lines(book, lines, result), result)


def _without_copies(program):
    """Returns the lines that are no copies, and the result, with other names in the place of those of copies."""
    originals = {}
    sources_of_turns = {}
    lines = []
    for given in program.lines:
        line = _with_names(given, originals)
        original = _copied(line, sources_of_turns)
        if original is not None:
            originals[line[1]] = original
        else:
            lines.append(line)
        if line[0] == "turn":
            sources_of_turns[line[1]] = line[2]
    return (lines, originals.get(program.result, program.result))


def _copied(line, sources_of_turns):
    """Returns the name whose text the line gives again, or None if it is no copy."""
    kind = line[0]
    if kind == "join" and len(line[2]) == 1 and line[2][0][0] == "name":
        return line[2][0][1]
    if kind == "turn":
        return sources_of_turns.get(line[2], None)
    if kind == "choose" and line[4] == line[5]:
        return line[4]
    return None


def _with_names(line, others):
    """Returns the line that reads other names in the place of those that have another one."""
    kind = line[0]
    if kind == "join":
        parts = [(sort, others.get(part, part) if sort == "name" else part) for sort, part in line[2]]
        return (kind, line[1], tuple(parts))
    read = [others.get(name, name) for name in names_read(line)]
    if kind == "turn":
        return (kind, line[1], read[0])
    if kind == "rewrite":
        return (kind, line[1], line[2], read[0])
    if kind == "choose":
        return (kind, line[1], read[0], line[3], read[1], read[2])
    return (kind, read[0], line[2])


def _without_idle_lines(book, lines, result):
    """Returns the lines that are not idle. From the end on, so that a line that only idle ones read is idle, too."""
    needed = {result: True}
    kept = []
    for line in reversed(lines):
        for_nothing = not any([name in needed for name in names_given(line)])
        if not (for_nothing and _refuses_no_text(book, line)):
            kept.append(line)
            for name in names_read(line):
                needed[name] = True
    kept.reverse()
    return kept


def _refuses_no_text(book, line):
    """Tells whether the line refuses no text at all."""
    # The least machine of all texts has one state, which is accepting.
    if line[0] == "need":
        return book.machine(line[2]).accepting == (True,)
    if line[0] == "rewrite":
        return domain(book.rewriter(line[2])).accepting == (True,)
    return True
