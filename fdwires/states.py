"""States of runs, and the actions that lead from one to another.

Processes and pipes are given by their numbers in the wiring.
"""

from fdwires.programs import is_process


def first_state(wiring):
    """The state with which each run begins."""
    places = [("new",) for _ in wiring.processes]
    places[0] = place_ahead(wiring, 0, 0)
    return (tuple(places), tuple([0 for _ in wiring.pipes]))


def place_ahead(wiring, at, index):
    """The place of a process ahead of a step, or behind all steps."""
    return ("at", index, 0) if index < len(wiring.bodies[at]) else ("over",)


def replaced(row, at, item):
    """A tuple with another item at one place."""
    return row[:at] + (item,) + row[at + 1:]


def is_running(places, at):
    """Whether a process has begun and is neither over nor broken."""
    return places[at][0] == "at"


def is_held(held, places, pipe):
    """Whether a running process holds an end of a pipe; held has the pipes whose ends each process has at each step."""
    return any([place[0] == "at" and pipe in held[at][place[1]] for at, place in enumerate(places)])


def current_flow(wiring, places, at):
    """The flow of the step at which a running process is, None if it moves no units one by one."""
    return wiring.flows[at][places[at][1]]


def children_run(wiring, places, at):
    """Whether a child of a process is running."""
    return any([is_running(places, child) for child in wiring.children[at].values()])


def places_behind(wiring, places, at):
    """The places behind the step at which a running process is."""
    index = places[at][1]
    behind = replaced(places, at, place_ahead(wiring, at, index + 1))
    child = wiring.children[at].get(index)
    return behind if child is None else replaced(behind, child, place_ahead(wiring, child, 0))


def behind_step(wiring, state, at):
    """The state behind the step of a running process if an action can end it without a unit of a pipe, else None."""
    places, contents = state
    flow = current_flow(wiring, places, at)
    if flow is None:
        step = wiring.bodies[at][places[at][1]]
        can_end = step[0] != "wait" or not children_run(wiring, places, at)
    else:
        source = flow[0]
        can_end = source is not None and contents[source] == 0 and not is_held(wiring.writable, places, source)
    return (places_behind(wiring, places, at), contents) if can_end else None


def behind_units(wiring, state, at, units):
    """The state behind this many units that a running process moves at its step."""
    places, contents = state
    source, target, amount = current_flow(wiring, places, at)
    if source is not None:
        contents = replaced(contents, source, contents[source] - units)
    if target is not None:
        contents = replaced(contents, target, contents[target] + units)
    _, index, moved = places[at]
    if moved + units == amount:
        return (places_behind(wiring, places, at), contents)
    return (replaced(places, at, ("at", index, moved + units)), contents)


def behind_unit(wiring, capacity, state, at):
    """The state behind an action of a running process at a step with a flow that goes on, None if it cannot act."""
    places, contents = state
    source, target, _ = current_flow(wiring, places, at)
    if source is not None and contents[source] == 0:
        return None
    if target is not None and not is_held(wiring.readable, places, target):
        return (replaced(places, at, ("broken",)), contents)
    if target is not None and contents[target] >= capacity:
        return None
    return behind_units(wiring, state, at, 1)


def state_behind(wiring, capacity, state, at):
    """The state behind an action of a process, None if it cannot act."""
    if not is_running(state[0], at):
        return None
    behind = behind_step(wiring, state, at)
    if behind is not None or current_flow(wiring, state[0], at) is None:
        return behind
    return behind_unit(wiring, capacity, state, at)


def able_in(wiring, capacity, state):
    """The ascending list of the processes that can act."""
    return [process for at, process in enumerate(wiring.processes)
            if state_behind(wiring, capacity, state, at) is not None]


def states_along(wiring, capacity, state, items):
    """A state and those behind each of some items, up to the first item that is no process that can act."""
    states = [state]
    for item in items:
        if not is_process(wiring.order, item):
            return states
        state = state_behind(wiring, capacity, state, wiring.order[item])
        if state is None:
            return states
        states.append(state)
    return states
