"""Closes: which numbers of processes are dead, and programs in which such numbers are closed."""

from fdwires.checks import DESCRIPTORS, is_integer, is_list, is_tuple
from fdwires.programs import is_process


def numbers_given(step):
    """The numbers to which a step gives an end; a copy of a number to itself gives none."""
    word = step[0]
    if word == "pipe":
        return [step[1], step[2]]
    if word == "open":
        return [step[1]]
    return [step[2]] if word == "copy" and step[1] != step[2] else []


def numbers_used(step):
    """The numbers that a step copies, writes or passes to."""
    word = step[0]
    if word in ("copy", "write"):
        return [step[1]]
    return [step[2]] if word == "pass" else []


def uses_along(wiring):
    """For each process, for each step and behind all of them, the ascending list of the numbers that are still used.

    They are used by the process, or by one that is forked from there on, before a step gives them another end.
    """
    uses = [[] for _ in wiring.processes]
    # A child is greater than its parent, so what is used of its first table is known when the turn of its parent comes.
    for at in reversed(range(len(wiring.processes))):
        rows = [[]]
        for index, step in reversed(list(enumerate(wiring.bodies[at]))):
            given = numbers_given(step)
            kept = [number for number in rows[-1] if number not in given]
            child = wiring.children[at].get(index)
            inherited = [] if child is None else uses[child][0]
            rows.append(sorted(set(kept + numbers_used(step) + inherited)))
        uses[at] = rows[::-1]
    return uses


def dead_along(wiring):
    """For each process, for each step and behind all of them, the ascending list of the numbers that are dead there."""
    return [[dead_in(table, used) for table, used in zip(tables, rows)]
            for tables, rows in zip(wiring.tables, uses_along(wiring))]


def dead_in(table, used):
    """The ascending list of the numbers of a table that stand for a writing end of a pipe, but are not used."""
    return [number for number in range(DESCRIPTORS) if is_writing(table[number]) and number not in used]


def is_writing(end):
    """Whether an end, or None, is a writing end of a pipe."""
    return end is not None and end[0] == "pipe" and end[3] == "w"


def places_of(wiring):
    """The ascending list of all places, tuples of a process, the index of a step and a number."""
    dead = dead_along(wiring)
    firsts = {0: []}
    places = []
    for at, process in enumerate(wiring.processes):
        for index, child in wiring.children[at].items():
            firsts[child] = dead[at][index]
        # What is dead ahead of a step by then, and has a place already.
        known = firsts[at]
        for index, step in enumerate(wiring.bodies[at]):
            places.extend([(process, index, number) for number in dead[at][index] if number not in known])
            given = numbers_given(step)
            known = [number for number in dead[at][index] if number not in given]
    return places


def is_closes(wiring, places, value):
    """Whether any value is an ascending list of different places."""
    found = {place: True for place in places}
    if not is_list(value) or not all([is_place(wiring, found, item) for item in value]):
        return False
    return all([place < other for place, other in zip(value, value[1:])])


def is_place(wiring, found, value):
    """Whether any value is one of the places that are the keys of a dict."""
    if not is_tuple(value) or len(value) != 3 or not is_process(wiring.order, value[0]):
        return False
    return is_integer(value[1]) and is_integer(value[2]) and value in found


def with_made(body, process, closes, free):
    """A body of a process in which closes are made.

    Closes are a dict from pairs of a process and an index to the lists of numbers to close there; free has the numbers
    that have been closed so in addition, and have not been given an end since: they are not closed again.
    """
    steps = []
    children = 0
    for index, step in enumerate(body):
        numbers = closes.get((process, index), [])
        steps.extend([("close", number) for number in numbers])
        free = free + numbers
        if step[0] == "fork":
            steps.append(("fork", with_made(step[1], process + (children,), closes, free)))
            children += 1
        elif step[0] != "close" or step[1] not in free:
            steps.append(step)
            given = numbers_given(step)
            free = [number for number in free if number not in given]
    return steps


def program_with(program, places):
    """The program in which the closes of an ascending list of places are made."""
    closes = {}
    for process, index, number in places:
        closes.setdefault((process, index), []).append(number)
    return with_made(program, (), closes, [])
