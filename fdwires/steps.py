"""The steps of programs: their forms, and what they need of a table."""

from fdwires.checks import is_descriptor, is_integer, is_list, is_name, is_tuple
from fdwires.tables import table_behind

MOST_UNITS = 10 ** 30

FORMS = {
    "pipe": ("number", "number"),
    "open": ("number", "name"),
    "copy": ("number", "number"),
    "close": ("number",),
    "fork": ("body",),
    "wait": (),
    "write": ("number", "units"),
    "read": ("number", "units or all"),
    "pass": ("number", "number", "units or all"),
}

# A number of a table of kinds stands for a file, the reading end or the writing end of a pipe, or it is free.
FIRST_KINDS = ("file", "file", "file", None, None, None, None, None, None, None)
FRESH_KINDS = {"pipe": ("reading", "writing"), "open": ("file",)}
CAN_BE_READ = ("file", "reading")
CAN_BE_WRITTEN = ("file", "writing")


def is_part(part, value):
    """Whether a value can be this part of a step."""
    if part == "number":
        return is_descriptor(value)
    if part == "name":
        return is_name(value)
    if part == "body":
        return is_list(value)
    if value is None:
        return part == "units or all"
    return is_integer(value) and 1 <= value <= MOST_UNITS


def has_form(value):
    """Whether a value has the form of a step; what is in the body of a fork is not looked at."""
    if not is_tuple(value) or len(value) == 0:
        return False
    word = value[0]
    if not isinstance(word, str) or word not in FORMS:
        return False
    parts = FORMS[word]
    if len(value) != len(parts) + 1:
        return False
    return all([is_part(part, item) for part, item in zip(parts, value[1:])])


def suits(step, kinds):
    """Whether a process with a table of these kinds can do a step of the right form."""
    word = step[0]
    if word == "pipe":
        return step[1] != step[2]
    if word in ("copy", "close"):
        return kinds[step[1]] is not None
    if word == "write":
        return kinds[step[1]] in CAN_BE_WRITTEN
    if word == "read":
        return kinds[step[1]] in CAN_BE_READ
    if word == "pass":
        return kinds[step[1]] in CAN_BE_READ and kinds[step[2]] in CAN_BE_WRITTEN
    return True


def kinds_behind(kinds, step):
    """The table of kinds behind a step."""
    return table_behind(kinds, step, FRESH_KINDS.get(step[0], ()))
