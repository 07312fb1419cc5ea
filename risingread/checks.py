"""Questions about values of any kind, asked before the values are used."""

KINDS = ("strict", "weak", "free")
LETTERS = "abcdefghijklmnopqrstuvwxyz"
LONGEST_NAME = 12
FIGURES = "0123456789"


def is_whole(thing):
    """Tell whether it is a whole number: True and False are none."""
    return isinstance(thing, int) and not isinstance(thing, bool)


def is_numbered(thing, many):
    """Tell whether it is the number of one of so many things, numbered from 0."""
    return is_whole(thing) and 0 <= thing < many


def is_sequence(thing):
    """Tell whether it is a tuple or a list."""
    return isinstance(thing, (tuple, list))


def is_name(thing):
    """Tell whether it is a name: 1 to 12 letters a to z."""
    if not isinstance(thing, str) or not 1 <= len(thing) <= LONGEST_NAME:
        return False
    return all([letter in LETTERS for letter in thing])


def is_decimal(text, most):
    """Tell whether the text has decimal figures without leading zeros, at most so many."""
    if not 1 <= len(text) <= most or (text[0] == "0" and len(text) > 1):
        return False
    return all([letter in FIGURES for letter in text])
