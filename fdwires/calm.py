"""Calm programs, all longest runs of which come to the same end, and what is done in such a run."""

from fdwires.course import course_of
from fdwires.errors import InvalidIndex, NotCalm
from fdwires.programs import check_index, check_process
from fdwires.wiring import ends_read, ends_written, pipe_readers, pipe_writers, wiring_for, wiring_of


def fault_of(wiring, process, j):
    """The word for what is against calm of a pipe, None if nothing is."""
    writers = pipe_writers(wiring, process, j)
    readers = pipe_readers(wiring, process, j)
    if len(writers) == 0:
        return None
    if len(writers) > 1:
        return "writers"
    if len(readers) != 1:
        return "readers"
    return None if reads_the_rest(wiring, wiring.order[readers[0]], ("pipe", process, j, "r")) else "rest"


def reads_the_rest(wiring, at, end):
    """Whether the last one of the steps of a process that read or pass from an end does it up to the end."""
    steps = [step for step, read in zip(wiring.bodies[at], ends_read(wiring, at)) if read == end]
    return steps[-1][-1] is None


def first_fault(wiring):
    """The process, the number and the word of the first pipe that is against calm, None if there is none."""
    for process, j in wiring.pipes:
        word = fault_of(wiring, process, j)
        if word is not None:
            return (process, j, word)
    return None


def check_calm(wiring):
    """Raises an error if a program is not calm."""
    fault = first_fault(wiring)
    if fault is not None:
        raise NotCalm(fault[0], fault[1])


def is_calm(program):
    """Whether a program is calm."""
    return why_not_calm(program) is None


def why_not_calm(program):
    """The process, the number and the word of the first pipe that is against calm, None if the program is calm."""
    return first_fault(wiring_of(program))


def calm_course(wiring, capacity):
    """The course of a program; raises an error if it is not calm or has no end."""
    check_calm(wiring)
    return course_of(wiring, capacity)


def last_state(program, capacity):
    """The final state of a calm program."""
    return calm_course(wiring_for(program, capacity), capacity)[0]


def steps_done(wiring, places, at):
    """The number of the steps that a process has done."""
    place = places[at]
    if place[0] == "at":
        return place[1]
    return len(wiring.bodies[at]) if place[0] == "over" else 0


def units_of_step(wiring, course, at, index):
    """The units that a step has moved in the course of a calm program."""
    state, moved = course
    step = wiring.bodies[at][index]
    # A step that writes to a file has no flow: it is done at once or not at all.
    if step[0] == "write" and wiring.flows[at][index] is None:
        return step[2] if index < steps_done(wiring, state[0], at) else 0
    return moved.get((at, index), 0)


def moved_units(program, capacity, process, index):
    """The number of the units that a step of a process moves in the run of a calm program."""
    wiring = wiring_for(program, capacity)
    check_process(wiring.order, process)
    at = wiring.order[process]
    check_index(wiring.bodies[at], index)
    if index == len(wiring.bodies[at]):
        raise InvalidIndex("there is no step behind all steps")
    return units_of_step(wiring, calm_course(wiring, capacity), at, index)


def made_openings(wiring, places):
    """The ascending list of the openings that are made up to these places, the first three among them."""
    found = list(wiring.tables[0][0][:3])
    for at, made in enumerate(wiring.made):
        found.extend([ends[0] for ends in made[:steps_done(wiring, places, at)] if len(ends) == 1])
    return found


def positions(program, capacity):
    """A dict from the openings that are made in the run of a calm program to the units written through each of them."""
    wiring = wiring_for(program, capacity)
    course = calm_course(wiring, capacity)
    found = {end: 0 for end in made_openings(wiring, course[0][0])}
    for at in range(len(wiring.processes)):
        for index, end in enumerate(ends_written(wiring, at)):
            if end in found:
                found[end] += units_of_step(wiring, course, at, index)
    return found


def file_lengths(program, capacity):
    """A dict from the names of the openings that are made in the run of a calm program to the lengths of the files."""
    lengths = {}
    for end, position in positions(program, capacity).items():
        lengths[end[3]] = max(position, lengths.get(end[3], 0))
    return {name: lengths[name] for name in sorted(lengths)}
