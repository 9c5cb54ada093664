"""Letters, alphabets, texts and their order."""

from anytext.errors import BadAlphabet, BadText

LETTERS = "abcdefghijklmnopqrstuvwxyzABCDEFGHIJKLMNOPQRSTUVWXYZ0123456789<>=:_@#"
MOST_LETTERS = 8


def check_alphabet(letters):
    """Raises BadAlphabet unless the string is 1 to 8 different letters."""
    if not 1 <= len(letters) <= MOST_LETTERS:
        raise BadAlphabet(letters)
    for letter in letters:
        if letter not in LETTERS or letters.count(letter) > 1:
            raise BadAlphabet(letters)


def is_text(letters, text):
    """Tells whether the string is a text over the alphabet."""
    return all([letter in letters for letter in text])


def check_text(letters, text):
    """Raises BadText unless the string is a text over the alphabet."""
    if not is_text(letters, text):
        raise BadText(text)


def order_key(letters, text):
    """Returns the key by which texts over the alphabet are put in order."""
    return (len(text), tuple([letters.index(letter) for letter in text]))


def texts_of(letters, length):
    """Yields all texts with this length, in order."""
    places = [0] * length
    turning = 0
    while turning >= 0:
        yield "".join([letters[place] for place in places])
        turning = length - 1
        while turning >= 0 and places[turning] == len(letters) - 1:
            places[turning] = 0
            turning -= 1
        if turning >= 0:
            places[turning] += 1
