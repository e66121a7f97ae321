"""Tests of the kinds of values that all files of this package need."""

DESCRIPTORS = 10
MOST_LETTERS = 8


def is_list(value):
    """Whether a value is exactly a list."""
    return type(value) == list


def is_tuple(value):
    """Whether a value is exactly a tuple."""
    return type(value) == tuple


def is_integer(value):
    """Whether a value is an int, but not a bool."""
    return isinstance(value, int) and not isinstance(value, bool)


def is_descriptor(value):
    """Whether a value is an integer from 0 to 9."""
    return is_integer(value) and 0 <= value < DESCRIPTORS


def is_name(value):
    """Whether a value is a string of 1 to 8 letters a to z."""
    if not isinstance(value, str) or not 1 <= len(value) <= MOST_LETTERS:
        return False
    return all(["a" <= letter <= "z" for letter in value])
