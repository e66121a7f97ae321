"""Hangs: which processes of a calm program are stuck at its end, for whom they wait, and with which capacities none is.

Within this file processes are given by their numbers in the wiring.
"""

from fdwires.calm import calm_course, check_calm
from fdwires.checks import is_list
from fdwires.course import course_of
from fdwires.programs import check_process, is_process
from fdwires.rings import shortest_ring
from fdwires.states import current_flow, is_running
from fdwires.wiring import pipe_readers, wiring_for, wiring_of


def run_hangs(wiring, capacity):
    """Whether a process is stuck in the run of a calm program; raises an error if the run has no end."""
    return len(running_in(course_of(wiring, capacity)[0])) > 0


def running_in(state):
    """The ascending list of the processes that are running, which are those that are stuck if the state is final."""
    places, _ = state
    return [at for at in range(len(places)) if is_running(places, at)]


def waited_for(wiring, state, at):
    """The ascending list of the processes for which a stuck process waits."""
    places, contents = state
    flow = current_flow(wiring, places, at)
    if flow is None:
        return [child for child in wiring.children[at].values() if is_running(places, child)]
    source, target, _ = flow
    if source is not None and contents[source] == 0:
        return [other for other in running_in(state) if source in wiring.writable[other][places[other][1]]]
    return [reader_to_come(wiring, places, target)]


def reader_to_come(wiring, places, pipe):
    """The reader of a full pipe, or the running process with the longest name from which it descends.

    The reader is not over: it reads up to the end, and whoever waits for it still holds a writing end.
    """
    process, j = wiring.pipes[pipe]
    name = pipe_readers(wiring, process, j)[0]
    while not is_running(places, wiring.order[name]):
        name = name[:-1]
    return wiring.order[name]


def waiting_links(wiring, state):
    """A dict from each stuck process to the list of the processes for which it waits."""
    return {at: waited_for(wiring, state, at) for at in running_in(state)}


def hangs(program, capacity):
    """Whether a process of a calm program is stuck at its end."""
    wiring = wiring_for(program, capacity)
    check_calm(wiring)
    return run_hangs(wiring, capacity)


def stuck(program, capacity):
    """The ascending list of the stuck processes of a calm program, each with the index of its step."""
    wiring = wiring_for(program, capacity)
    state = calm_course(wiring, capacity)[0]
    return [(wiring.processes[at], state[0][at][1]) for at in running_in(state)]


def waits_for(program, capacity, process):
    """The ascending list of the processes for which a process waits, [] if it is not stuck."""
    wiring = wiring_for(program, capacity)
    check_process(wiring.order, process)
    links = waiting_links(wiring, calm_course(wiring, capacity)[0])
    return [wiring.processes[other] for other in links.get(wiring.order[process], [])]


def ring_in(program, capacity):
    """A list of as few processes as possible that wait for one another in a ring, None if the program does not hang."""
    wiring = wiring_for(program, capacity)
    ring = shortest_ring(waiting_links(wiring, calm_course(wiring, capacity)[0]))
    return None if ring is None else [wiring.processes[at] for at in ring]


def is_ring(program, capacity, value):
    """Whether any value is a list of processes each of which waits for the next one, and the last one for the first."""
    wiring = wiring_for(program, capacity)
    links = waiting_links(wiring, calm_course(wiring, capacity)[0])
    if not is_list(value) or len(value) == 0 or not all([is_process(wiring.order, item) for item in value]):
        return False
    if len(set(value)) < len(value):
        return False
    ring = [wiring.order[item] for item in value]
    return all([other in links.get(at, []) for at, other in zip(ring, ring[1:] + ring[:1])])


def safe_capacity(program):
    """The least capacity with which a calm program does not hang, None if it hangs with each one."""
    wiring = wiring_of(program)
    check_calm(wiring)
    safe = great_capacity(wiring)
    if run_hangs(wiring, safe):
        return None
    # With no more than this capacity the program hangs.
    small = 0
    while safe - small > 1:
        middle = (small + safe) // 2
        if run_hangs(wiring, middle):
            small = middle
        else:
            safe = middle
    return safe


def great_capacity(wiring):
    """A capacity with which no pipe is ever full.

    One more than all units that are written, as a unit can be passed to the very pipe that contains all of them.
    """
    return 1 + sum([step[2] for body in wiring.bodies for step in body if step[0] == "write"])
