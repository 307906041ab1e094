"""Integers: which values they are, and how texts show them."""

MOST_FIGURES = 18


def is_integer(value):
    """Whether any value is an int that is not a bool."""
    return isinstance(value, int) and not isinstance(value, bool)


def is_between(value, low, high):
    """Whether any value is an integer from low to high."""
    return is_integer(value) and low <= value <= high


def lesser(one, other):
    """The lesser one of two integers."""
    return one if one <= other else other


def greater(one, other):
    """The greater one of two integers."""
    return one if one >= other else other


def read_integer(text):
    """The integer that a string shows in decimal, None if it shows none."""
    figures = text.removeprefix("-")
    # isdigit alone would take figures of other scripts for figures.
    if not figures.isascii() or not figures.isdigit():
        return None
    if len(figures) > MOST_FIGURES:
        return None
    if figures.startswith("0") and text != "0":
        return None
    return int(text)
