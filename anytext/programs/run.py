"""Running programs."""

from anytext.errors import WrongCount
from anytext.letters.alphabet import check_text


def run(book, program, inputs):
    """Returns ("gives", text), or ("refuses", index) with the index of the line that refuses."""
    texts, refusing = _texts_and_refusing(book, program, inputs)
    if refusing is not None:
        return ("refuses", refusing)
    return ("gives", texts[program.result])


def texts_on_the_way(book, program, inputs):
    """Returns the list of the pairs of a name and its text, up to the line that refuses."""
    return list(_texts_and_refusing(book, program, inputs)[0].items())


def _texts_and_refusing(book, program, inputs):
    """Returns the texts of the names, in the order in which they got them, and the index of the line that refuses.

    The index is None if no line refuses.
    """
    if len(inputs) != len(program.inputs):
        raise WrongCount(len(inputs))
    for text in inputs:
        check_text(book.letters, text)
    texts = dict(zip(program.inputs, inputs))
    for index, line in enumerate(program.lines):
        if line[0] == "need":
            if not book.machine(line[2]).accepts(texts[line[1]]):
                return (texts, index)
        else:
            made = _made(book, line, texts)
            if made is None:
                return (texts, index)
            texts[line[1]] = made
    return (texts, None)


def _made(book, line, texts):
    """Returns the text that the line gives its name, or None if it refuses."""
    kind = line[0]
    if kind == "join":
        return "".join([texts[part] if sort == "name" else part for sort, part in line[2]])
    if kind == "turn":
        return texts[line[2]][::-1]
    if kind == "rewrite":
        return book.rewriter(line[2]).rewrite(texts[line[3]])
    if book.machine(line[3]).accepts(texts[line[2]]):
        return texts[line[4]]
    return texts[line[5]]
