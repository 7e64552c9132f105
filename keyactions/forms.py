"""What integers, names, and the lines and words of a text look like."""

from keyactions.errors import BadText

LETTERS = "abcdefghijklmnopqrstuvwxyz"
DIGITS = "0123456789"
MOST_LETTERS = 8
MOST_DIGITS = 40


def is_integer(value):
    """Whether any value is an integer: True and False are none, although Python counts them in."""
    return isinstance(value, int) and not isinstance(value, bool)


def is_name(value):
    """Whether any value is a name; `id` is one here."""
    if not isinstance(value, str) or not 1 <= len(value) <= MOST_LETTERS:
        return False
    return all([letter in LETTERS for letter in value])


def is_number(word):
    """Whether a word is an integer as texts have it."""
    digits = word.removeprefix("-")
    if not 1 <= len(digits) <= MOST_DIGITS or not all([digit in DIGITS for digit in digits]):
        return False
    return word == "0" or digits[0] != "0"


def value_word(value):
    """The word for an integer or None."""
    if value is None:
        return "null"
    return str(value)


def word_lines(text):
    """The words of each line of a text; an empty text has no lines."""
    if not isinstance(text, str):
        raise BadText(0)
    if text == "":
        return []
    return [line.split(" ") for line in text.split("\n")]


def check_lines(lines):
    """Raises for the first line that is None: that does not have its form."""
    for at, line in enumerate(lines):
        if line is None:
            raise BadText(at)
