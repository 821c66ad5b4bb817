"""The plain values that all parts of the program are told in: names, paths, numbers and pairs."""

LETTERS = "abcdefghijklmnopqrstuvwxyz"
FIGURES = "0123456789"
LONGEST_NAME = 8
LONGEST_PATH = 3
HIGHEST = 99


def is_name(value):
    """Tell whether a value is a name: a string of 1 to 8 letters a to z."""
    # isalpha and islower would let letters of other scripts pass.
    return isinstance(value, str) and 1 <= len(value) <= LONGEST_NAME and all([sign in LETTERS for sign in value])


def is_path(value):
    """Tell whether a value is a path: a string of 1 to 3 names with slashes between them."""
    if not isinstance(value, str):
        return False
    names = value.split("/")
    return len(names) <= LONGEST_PATH and all([is_name(name) for name in names])


def is_whole(value, low, high):
    """Tell whether a value is an integer from low to high; True and False are none."""
    return isinstance(value, int) and not isinstance(value, bool) and low <= value <= high


def is_decimal(text, figures):
    """Tell whether a text is a number of at most so many figures, without leading zeros."""
    if not 1 <= len(text) <= figures or not all([sign in FIGURES for sign in text]):
        return False
    return text == "0" or text[0] != "0"


def are_names(value):
    """Tell whether a value is a tuple of different names."""
    if not isinstance(value, tuple) or not all([is_name(one) for one in value]):
        return False
    return len(set(value)) == len(value)


def are_pairs(value):
    """Tell whether a value is a tuple of tuples of two values each."""
    return isinstance(value, tuple) and all([isinstance(one, tuple) and len(one) == 2 for one in value])


def firsts(pairs):
    """Return what stands first in each pair."""
    return tuple([pair[0] for pair in pairs])


def place_among(choices, value):
    """Return the place of any value in a tuple of plain ones, -1 if it does not stand there."""
    for place, choice in enumerate(choices):
        # Python takes True for 1: here a mark is no number.
        if isinstance(choice, bool) == isinstance(value, bool) and choice == value:
            return place
    return -1
