"""Integers, words and tags."""

from wirebox.errors import BadWord

MOST_SIGNS = 12
LETTERS = "abcdefghijklmnopqrstuvwxyz"
SIGNS = "abcdefghijklmnopqrstuvwxyz0123456789_"


def is_integer(value):
    """Whether a value is an int, but neither True nor False."""
    return isinstance(value, int) and not isinstance(value, bool)


def is_count(value):
    """Whether a value is an integer from 1 on."""
    return is_integer(value) and value > 0


def is_word(value):
    """Whether a value is a string of 1 to 12 letters a to z, digits and _, a letter first."""
    if not isinstance(value, str) or len(value) == 0 or len(value) > MOST_SIGNS:
        return False
    return value[0] in LETTERS and all([sign in SIGNS for sign in value])


def is_tag(value):
    """Whether a value is a word or the empty string."""
    return isinstance(value, str) and (len(value) == 0 or is_word(value))


def need_word(value):
    """Refuse what is no word."""
    if not is_word(value):
        raise BadWord(value)
