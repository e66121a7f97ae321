"""Runs: what programs do under each schedule."""

from fdwires.checks import is_like, is_list
from fdwires.errors import NotPossible, TooLarge
from fdwires.states import able_in, first_state, state_behind, states_along
from fdwires.wiring import wiring_for

MOST_STATES = 4000


def checked_states(wiring, capacity, schedule):
    """The states at first and behind each item of a schedule; raises an error if there is no schedule."""
    if not is_list(schedule):
        raise NotPossible(None)
    states = states_along(wiring, capacity, first_state(wiring), schedule)
    if len(states) <= len(schedule):
        raise NotPossible(len(states) - 1)
    return states


def is_schedule(program, capacity, value):
    """Whether any value is a schedule of a program."""
    wiring = wiring_for(program, capacity)
    if not is_list(value):
        return False
    return len(states_along(wiring, capacity, first_state(wiring), value)) == len(value) + 1


def after_schedule(program, capacity, schedule):
    """The state behind a schedule."""
    return checked_states(wiring_for(program, capacity), capacity, schedule)[-1]


def able_after(program, capacity, schedule):
    """The ascending list of the processes that can act behind a schedule."""
    wiring = wiring_for(program, capacity)
    return able_in(wiring, capacity, checked_states(wiring, capacity, schedule)[-1])


def walk_schedule(program, capacity, schedule):
    """Yields the state at first and behind each item of a schedule."""
    # All states are told ahead of the first one, so that an error comes before any of them.
    states = checked_states(wiring_for(program, capacity), capacity, schedule)
    for state in states:
        yield state


def reached_states(wiring, capacity):
    """A dict from all states that can be reached, those with the shortest schedules first, to how they are reached.

    This is a pair of the state before and the process that acts, None for the first state.
    """
    reached = {first_state(wiring): None}
    layer = list(reached)
    while len(layer) > 0:
        further = []
        for state in layer:
            for at, process in enumerate(wiring.processes):
                behind = state_behind(wiring, capacity, state, at)
                if behind is not None and behind not in reached:
                    reached[behind] = (state, process)
                    further.append(behind)
            if len(reached) > MOST_STATES:
                raise TooLarge(MOST_STATES)
        layer = further
    return reached


def final_states(program, capacity):
    """The ascending list of all final states."""
    wiring = wiring_for(program, capacity)
    return sorted([state for state in reached_states(wiring, capacity) if len(able_in(wiring, capacity, state)) == 0])


def schedule_to(program, capacity, state):
    """A schedule as short as possible that leads to any value as a state, None if it cannot be reached."""
    reached = reached_states(wiring_for(program, capacity), capacity)
    known = [other for other in reached if is_like(other, state)]
    if len(known) == 0:
        return None
    schedule = []
    step = reached[known[0]]
    while step is not None:
        before, process = step
        schedule.append(process)
        step = reached[before]
    return schedule[::-1]
