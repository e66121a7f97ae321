"""Ends: which number of which process stands for which end of a pipe or opening of a file, and when."""

from fdwires.checks import DESCRIPTORS, is_descriptor, is_integer, is_like
from fdwires.errors import InvalidIndex, InvalidNumber
from fdwires.programs import check_index, check_process
from fdwires.wiring import pipe_readers, pipe_writers, wiring_of


def checked_table(wiring, process, index):
    """The table of a process ahead of a step; raises an error if there is no such process or step."""
    check_process(wiring.order, process)
    at = wiring.order[process]
    check_index(wiring.bodies[at], index)
    return wiring.tables[at][index]


def checked_end(wiring, process, index, number):
    """The end for which a number of a process stands ahead of a step; raises an error if one of these is none."""
    table = checked_table(wiring, process, index)
    if not is_descriptor(number):
        raise InvalidNumber("no descriptor")
    return table[number]


def table_at(program, process, index):
    """The list of the ten ends, or None, that a process has ahead of the step with an index, or behind all steps."""
    return checked_table(wiring_of(program), process, index)


def pipes_of(program):
    """The ascending list of the pipes of a program."""
    return wiring_of(program).pipes


def openings_of(program):
    """The ascending list of the openings of a program, without the first three."""
    wiring = wiring_of(program)
    return [ends[0] for made in wiring.made for ends in made if len(ends) == 1]


def holders(program, end):
    """The ascending list of the processes and numbers that stand for any value as an end, with first and last index."""
    wiring = wiring_of(program)
    found = []
    for process, tables in zip(wiring.processes, wiring.tables):
        for number in range(DESCRIPTORS):
            stands = [is_like(table[number], end) for table in tables]
            found.extend([(process, number, first, last) for first, last in stretches(stands)])
    return found


def stretches(marks):
    """The list of the first and the last index of each stretch of marks that are true."""
    found = []
    first = None
    for index, mark in enumerate(marks + [False]):
        if mark and first is None:
            first = index
        if not mark and first is not None:
            found.append((first, index - 1))
            first = None
    return found


def checked_pipe(program, process, j):
    """The wiring of a program; raises an error if the process does not make a pipe with this number."""
    wiring = wiring_of(program)
    check_process(wiring.order, process)
    many = len([pipe for pipe in wiring.pipes if pipe[0] == process])
    if not is_integer(j) or not 0 <= j < many:
        raise InvalidIndex("no pipe of the process")
    return wiring


def writers_of(program, process, j):
    """The ascending list of the processes that have a step that writes or passes to a pipe."""
    return pipe_writers(checked_pipe(program, process, j), process, j)


def readers_of(program, process, j):
    """The ascending list of the processes that have a step that reads or passes from a pipe."""
    return pipe_readers(checked_pipe(program, process, j), process, j)


def same_opening(program, process, index, number, other, other_index, other_number):
    """Whether two numbers of processes ahead of steps stand for one opening of a file."""
    wiring = wiring_of(program)
    end = checked_end(wiring, process, index, number)
    other_end = checked_end(wiring, other, other_index, other_number)
    return end is not None and end[0] == "file" and end == other_end
