"""Tests of the kinds of values that all files of this package need."""

from fdwires.errors import InvalidCapacity

DESCRIPTORS = 10
DIGITS = "0123456789"
MOST_LETTERS = 8


def is_list(value):
    """Whether a value is exactly a list."""
    return type(value) == list


def is_tuple(value):
    """Whether a value is exactly a tuple."""
    return type(value) == tuple


def is_integer(value):
    """Whether a value is an int, but not a bool."""
    return isinstance(value, int) and not isinstance(value, bool)


def is_descriptor(value):
    """Whether a value is an integer from 0 to 9."""
    return is_integer(value) and 0 <= value < DESCRIPTORS


def is_name(value):
    """Whether a value is a string of 1 to 8 letters a to z."""
    if not isinstance(value, str) or not 1 <= len(value) <= MOST_LETTERS:
        return False
    return all(["a" <= letter <= "z" for letter in value])


def is_like(known, value):
    """Whether any value is equal to a known one of integers, strings and tuples, and has integers where that has them.

    Only the known value leads into the depth, so this ends whatever the other one is. Nothing is like None.
    """
    if is_tuple(known):
        if not is_tuple(value) or len(value) != len(known):
            return False
        return all([is_like(item, other) for item, other in zip(known, value)])
    if isinstance(known, str):
        return isinstance(value, str) and value == known
    return is_integer(value) and value == known


def check_capacity(value):
    """Raises an error if a value is no integer from 1 on."""
    if not is_integer(value) or value < 1:
        raise InvalidCapacity("a capacity is an integer from 1 on")
