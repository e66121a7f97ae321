"""Tables of descriptors, and what a single step does to a table."""

from fdwires.checks import DESCRIPTORS, is_list, is_name
from fdwires.errors import InvalidTable


def is_table(value):
    """Whether a value is a list of ten items, each of them a name or None."""
    if not is_list(value) or len(value) != DESCRIPTORS:
        return False
    return all([end is None or is_name(end) for end in value])


def check_table(value):
    """Raises an error if a value is no table."""
    if not is_table(value):
        raise InvalidTable("a table is a list of ten items, each of them a name or None")


def table_behind(table, step, fresh):
    """The table behind a step; fresh has the new ends that a pipe step or an open step gives, in their order.

    The ends can be of any kind, so that the same function serves for names, kinds and sources of ends.
    """
    ends = list(table)
    word = step[0]
    if word == "pipe":
        ends[step[1]] = fresh[0]
        ends[step[2]] = fresh[1]
    elif word == "open":
        ends[step[1]] = fresh[0]
    elif word == "copy":
        ends[step[2]] = ends[step[1]]
    elif word == "close":
        ends[step[1]] = None
    return ends
