"""The wiring of a program: who has which end at which step, which is known ahead of all runs."""

from fdwires.checks import check_capacity
from fdwires.programs import check_program, process_table
from fdwires.tables import table_behind

FIRST_TABLE = (("file", (), -3, "in"), ("file", (), -2, "out"), ("file", (), -1, "err"),
               None, None, None, None, None, None, None)


class Wiring:
    """The processes of a program, numbered in ascending order, with their bodies and tables.

    Pipes are numbered likewise. made, tables, flows, readable and writable have for each process an item for each
    step: the ends that it makes, the table ahead of it, its flow, and the pipes of which the process holds a reading
    end, or a writing end, ahead of it. tables has one item more, that behind all steps.
    """

    def __init__(self, program):
        found = process_table(program)
        self.processes = list(found)
        self.order = {process: at for at, process in enumerate(self.processes)}
        self.bodies = [body for body, _ in found.values()]
        self.children = children_by_step(found, self.order)
        self.made = [ends_made(process, body) for process, body in zip(self.processes, self.bodies)]
        self.tables = traced_tables(self.bodies, self.made, self.children)
        self.pipes = [ends[0][1:3] for made in self.made for ends in made if len(ends) == 2]
        numbers = pipe_numbers(self.pipes)
        self.flows = [flows_of(body, tables, numbers) for body, tables in zip(self.bodies, self.tables)]
        self.readable = [held_pipes(tables, "r", numbers) for tables in self.tables]
        self.writable = [held_pipes(tables, "w", numbers) for tables in self.tables]


def wiring_of(program):
    """The wiring of a program; raises an error if there is no program."""
    check_program(program)
    return Wiring(program)


def wiring_for(program, capacity):
    """The wiring of a program; raises an error if there is no program or no capacity."""
    check_program(program)
    check_capacity(capacity)
    return Wiring(program)


def children_by_step(found, order):
    """For each process a dict from the indexes of its forks to the numbers of the children that they start."""
    children = [{} for _ in order]
    for process, (_, place) in found.items():
        if process != ():
            children[order[process[:-1]]][place] = order[process]
    return children


def ends_made(process, body):
    """For each step of a process the tuple of the ends that it makes, in the order of its numbers."""
    made = []
    pipes = 0
    openings = 0
    for step in body:
        ends = ()
        if step[0] == "pipe":
            ends = (("pipe", process, pipes, "r"), ("pipe", process, pipes, "w"))
            pipes += 1
        elif step[0] == "open":
            ends = (("file", process, openings, step[2]),)
            openings += 1
        made.append(ends)
    return made


def traced_tables(bodies, made, children):
    """For each process the list of its tables ahead of each step and behind all of them."""
    firsts = {0: list(FIRST_TABLE)}
    traces = []
    # A parent is less than its children, so the table that a child inherits is known when its turn comes.
    for at, body in enumerate(bodies):
        tables = tables_along(firsts[at], body, made[at])
        for index, child in children[at].items():
            firsts[child] = tables[index]
        traces.append(tables)
    return traces


def tables_along(first, body, made):
    """The tables ahead of each step of a body and behind all of them, for a first one."""
    tables = [first]
    for step, ends in zip(body, made):
        tables.append(table_behind(tables[-1], step, ends))
    return tables


def pipe_numbers(pipes):
    """A dict from all ends of pipes to the numbers of their pipes."""
    return {("pipe", process, j, side): number for number, (process, j) in enumerate(pipes) for side in ("r", "w")}


def held_pipes(tables, side, numbers):
    """For each table the list of the pipes whose end of this side it has."""
    return [[numbers[end] for end in table if end in numbers and end[3] == side] for table in tables]


def read_end(step, table):
    """The end from which a step reads or passes, None if it does neither."""
    return table[step[1]] if step[0] in ("read", "pass") else None


def written_end(step, table):
    """The end to which a step writes or passes, None if it does neither."""
    if step[0] == "write":
        return table[step[1]]
    return table[step[2]] if step[0] == "pass" else None


def flows_of(body, tables, numbers):
    """For each step that moves units one by one a tuple, None for each other step.

    The tuple has the pipe from which the units come, the pipe to which they go, None where there is no such pipe, and
    the amount of the step. Whatever a step does with a file needs no second action, unless its units come from a pipe.
    """
    flows = []
    for step, table in zip(body, tables):
        taken = read_end(step, table)
        source = numbers.get(taken)
        target = numbers.get(written_end(step, table))
        from_file = taken is not None and source is None
        flows.append(None if from_file or (source is None and target is None) else (source, target, step[-1]))
    return flows


def ends_read(wiring, at):
    """For each step of a process the end from which it reads or passes, None for other steps."""
    return [read_end(step, table) for step, table in zip(wiring.bodies[at], wiring.tables[at])]


def ends_written(wiring, at):
    """For each step of a process the end to which it writes or passes, None for other steps."""
    return [written_end(step, table) for step, table in zip(wiring.bodies[at], wiring.tables[at])]


def pipe_readers(wiring, process, j):
    """The ascending list of the processes that have a step that reads or passes from a pipe."""
    end = ("pipe", process, j, "r")
    return [reader for at, reader in enumerate(wiring.processes) if end in ends_read(wiring, at)]


def pipe_writers(wiring, process, j):
    """The ascending list of the processes that have a step that writes or passes to a pipe."""
    end = ("pipe", process, j, "w")
    return [writer for at, writer in enumerate(wiring.processes) if end in ends_written(wiring, at)]
