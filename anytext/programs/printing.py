"""Printing programs in their notation."""


def print_program(program):
    """Returns the notation of the program."""
    lines = "".join([_notation_of_line(line) + "; " for line in program.lines])
    return ", ".join(program.inputs) + ": " + lines + "give " + program.result


def _notation_of_line(line):
    """Returns the notation of the line, without the `;` behind it."""
    if line[0] == "need":
        return f"need {line[1]} in {line[2]}"
    return line[1] + " = " + _notation_of_made(line)


def _notation_of_made(line):
    """Returns the notation of what stands behind `=`."""
    kind = line[0]
    if kind == "turn":
        return f"turn {line[2]}"
    if kind == "rewrite":
        return f"rewrite {line[2]} {line[3]}"
    if kind == "choose":
        return f"if {line[2]} in {line[3]} then {line[4]} else {line[5]}"
    return " ".join([_notation_of_part(part) for part in line[2]])


def _notation_of_part(part):
    """Returns the notation of a part of a join."""
    kind, text = part
    return "'" + text + "'" if kind == "text" else text
