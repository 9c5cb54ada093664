"""Common beginnings of texts."""


def common_beginning(texts):
    """Returns the longest common beginning of all these texts, one at least."""
    # What the first and the last one share in the order of strings, all between them share, too.
    return _shared(min(texts), max(texts))


def owed(ahead, behind):
    """Returns the two texts without their longest common beginning."""
    many = len(_shared(ahead, behind))
    return (ahead[many:], behind[many:])


def _shared(one, other):
    """Returns the longest common beginning of two texts."""
    most = min(len(one), len(other))
    if one[:most] == other[:most]:
        return one[:most]
    place = 0
    while one[place] == other[place]:
        place += 1
    return one[:place]
