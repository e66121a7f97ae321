"""Programs: which values are programs, and the processes that they have."""

from fdwires.checks import is_integer, is_list, is_tuple
from fdwires.errors import InvalidIndex, InvalidProcess, InvalidProgram
from fdwires.steps import FIRST_KINDS, has_form, kinds_behind, suits

MOST_STEPS = 60
MOST_PROCESSES = 8
MOST_ITEMS = 4


def is_program(value):
    """Whether any value is a program."""
    return first_wrong(value) is None


def first_wrong(value):
    """The process and the index of the first wrong step of any value, None for a program."""
    if not is_list(value):
        return (None, None)
    return wrong_in(value, (), FIRST_KINDS, [()])


def wrong_in(body, process, kinds, known):
    """The first wrong step in a body or in those that it forks; known grows by the processes that are forked.

    The limits are looked at ahead of each step, so this ends also for a body that contains itself.
    """
    children = 0
    for index, step in enumerate(body):
        if index >= MOST_STEPS or not has_form(step) or not suits(step, kinds):
            return (process, index)
        if step[0] == "fork":
            if len(known) == MOST_PROCESSES or len(process) == MOST_ITEMS:
                return (process, index)
            child = process + (children,)
            children += 1
            known.append(child)
            wrong = wrong_in(step[1], child, kinds, known)
            if wrong is not None:
                return wrong
        kinds = kinds_behind(kinds, step)
    return None


def check_program(value):
    """Raises an error if a value is no program."""
    wrong = first_wrong(value)
    if wrong is not None:
        raise InvalidProgram(wrong[0], wrong[1])


def process_table(program):
    """A dict from the processes of a program, ascending, to pairs: the body, and where its parent forks it."""
    found = {}
    add_processes(found, (), program, None)
    return found


def add_processes(found, process, body, place):
    """Adds a process and those that descend from it, in ascending order."""
    found[process] = (body, place)
    children = 0
    for index, step in enumerate(body):
        if step[0] == "fork":
            add_processes(found, process + (children,), step[1], index)
            children += 1


def is_process(found, value):
    """Whether any value is one of the processes that are the keys of a dict."""
    # The items are looked at first, as True and 1.0 are equal to an integer, and a list cannot be looked up.
    return is_tuple(value) and all([is_integer(item) for item in value]) and value in found


def check_process(found, value):
    """Raises an error if a value is none of the processes that are the keys of a dict."""
    if not is_process(found, value):
        raise InvalidProcess("no process of the program")


def check_index(body, value):
    """Raises an error if a value is no integer from 0 to the number of the steps of a body."""
    if not is_integer(value) or not 0 <= value <= len(body):
        raise InvalidIndex("no step of the process, and not the place behind its steps")


def processes_of(program):
    """The ascending list of the processes of a program."""
    check_program(program)
    return list(process_table(program))


def body_of(program, process):
    """The body of a process of a program."""
    check_program(program)
    found = process_table(program)
    check_process(found, process)
    return copied_body(found[process][0])


def copied_body(body):
    """A copy of a body, down to the bodies of its forks."""
    return [copied_step(step) for step in body]


def copied_step(step):
    """A step, with a copy of its body if it is a fork."""
    if step[0] == "fork":
        return ("fork", copied_body(step[1]))
    return step


def fork_place(program, process):
    """The index of the step that forks a process in the body of its parent, None for the main process."""
    check_program(program)
    found = process_table(program)
    check_process(found, process)
    return found[process][1]
