"""A second way to run programs: each process has its own table, as a system would have it, and moves unit by unit."""

import itertools

FIRST = [("file", (), -3, "in"), ("file", (), -2, "out"), ("file", (), -1, "err")] + [None] * 7


def all_bodies(program, name=()):
    """A dict from the processes of a program to their bodies."""
    found = {name: program}
    forked = [step[1] for step in program if step[0] == "fork"]
    for at, body in enumerate(forked):
        found.update(all_bodies(body, name + (at,)))
    return dict(sorted(found.items()))


def all_tables(program):
    """A dict from the processes of a program to the lists of their tables ahead of each step and behind all."""
    found = {}
    waiting = [Task((), program, FIRST)]
    while waiting:
        task = waiting.pop()
        rows = [list(task.table)]
        while task.index < len(task.body):
            child = task.go_on()
            if child is not None:
                waiting.append(child)
            rows.append(list(task.table))
        found[task.name] = rows
    return dict(sorted(found.items()))


def all_uses(program):
    """The list of (process, index, "reads" or "writes", end, amount) of all steps that read, write or pass."""
    tables = all_tables(program)
    uses = []
    for name, body in all_bodies(program).items():
        for index, step in enumerate(body):
            table = tables[name][index]
            if step[0] in ("read", "pass"):
                uses.append((name, index, "reads", table[step[1]], step[-1]))
            if step[0] in ("write", "pass"):
                uses.append((name, index, "writes", table[step[-2]], step[-1]))
    return uses


def all_pipes(program):
    """The ascending list of the pipes of a program."""
    return sorted((name, at) for name, body in all_bodies(program).items()
                  for at in range([step[0] for step in body].count("pipe")))


def second_fault(program):
    """The process, number and word of the first pipe that is against calm, None if the program is calm."""
    uses = all_uses(program)
    for name, j in all_pipes(program):
        writers = {use[0] for use in uses if use[2] == "writes" and use[3] == ("pipe", name, j, "w")}
        reads = [use for use in uses if use[2] == "reads" and use[3] == ("pipe", name, j, "r")]
        if len(writers) > 1:
            return (name, j, "writers")
        if writers and len({use[0] for use in reads}) != 1:
            return (name, j, "readers")
        if writers and max(reads)[-1] is not None:
            return (name, j, "rest")
    return None


class Task:
    """A process that runs."""

    def __init__(self, name, body, table):
        self.name = name
        self.body = body
        self.table = list(table)
        self.index = 0
        self.moved = 0
        self.word = "at" if body else "over"
        self.made = {"pipe": 0, "open": 0, "fork": 0}

    def twin(self):
        other = Task(self.name, self.body, self.table)
        other.index, other.moved, other.word, other.made = self.index, self.moved, self.word, dict(self.made)
        return other

    def place(self):
        return ("at", self.index, self.moved) if self.word == "at" else (self.word,)

    def go_on(self):
        """Does to the own table what the step says and goes to the next step; returns the child of a fork."""
        word, *rest = self.body[self.index]
        count = self.made.get(word)
        child = None
        if word == "pipe":
            self.table[rest[0]] = ("pipe", self.name, count, "r")
            self.table[rest[1]] = ("pipe", self.name, count, "w")
        elif word == "open":
            self.table[rest[0]] = ("file", self.name, count, rest[1])
        elif word == "copy":
            self.table[rest[1]] = self.table[rest[0]]
        elif word == "close":
            self.table[rest[0]] = None
        elif word == "fork":
            child = Task(self.name + (count,), rest[0], self.table)
        if count is not None:
            self.made[word] += 1
        self.index += 1
        self.moved = 0
        if self.index == len(self.body):
            self.word = "over"
        return child


class Machine:
    """A run of a program."""

    def __init__(self, program, capacity):
        self.names = list(all_bodies(program))
        self.capacity = capacity
        self.tasks = {(): Task((), program, FIRST)}
        self.units = {pipe: 0 for pipe in all_pipes(program)}
        # What has been written through each opening that is made, and what each step has moved.
        self.written = {end: 0 for end in FIRST[:3]}
        self.carried = {}

    def twin(self):
        other = Machine([], self.capacity)
        other.names = self.names
        other.tasks = {name: task.twin() for name, task in self.tasks.items()}
        other.units = dict(self.units)
        other.written = dict(self.written)
        other.carried = dict(self.carried)
        return other

    def state(self):
        places = tuple(self.tasks[name].place() if name in self.tasks else ("new",) for name in self.names)
        return (places, tuple(self.units[pipe] for pipe in sorted(self.units)))

    def is_open(self, pipe, side):
        """Whether a running process has an end of a pipe."""
        return any(("pipe",) + pipe + (side,) in task.table for task in self.tasks.values() if task.word == "at")

    def done(self, task):
        child = task.go_on()
        if child is not None:
            self.tasks[child.name] = child
        for end in task.table:
            if end is not None and end[0] == "file":
                self.written.setdefault(end, 0)
        return True

    def count(self, task, units, target):
        """Counts units that a step moves; target is an end, or None."""
        place = (task.name, task.index)
        self.carried[place] = self.carried.get(place, 0) + units
        if target is not None and target[0] == "file":
            self.written[target] += units

    def act(self, name):
        """Does one action of a process, and returns whether it can act."""
        task = self.tasks.get(name)
        if task is None or task.word != "at":
            return False
        word, *rest = task.body[task.index]
        if word == "wait":
            children = [other for other in self.tasks.values() if other.name[:-1] == name and other.name != ()]
            return not any(child.word == "at" for child in children) and self.done(task)
        if word == "write":
            return self.move(task, None, task.table[rest[0]], rest[1])
        if word == "read":
            return self.move(task, task.table[rest[0]], None, rest[1])
        if word == "pass":
            return self.move(task, task.table[rest[0]], task.table[rest[1]], rest[2])
        return self.done(task)

    def move(self, task, source, target, amount):
        if source is not None and source[0] == "file":
            return self.done(task)
        if source is None and target[0] == "file":
            self.count(task, amount, target)
            return self.done(task)
        if source is not None and self.units[source[1:3]] == 0:
            return not self.is_open(source[1:3], "w") and self.done(task)
        if target is not None and target[0] == "pipe":
            if not self.is_open(target[1:3], "r"):
                task.word = "broken"
                return True
            if self.units[target[1:3]] >= self.capacity:
                return False
            self.units[target[1:3]] += 1
        if source is not None:
            self.units[source[1:3]] -= 1
        self.count(task, 1, target)
        task.moved += 1
        return self.done(task) if task.moved == amount else True

    def able(self):
        return [name for name in self.names if self.twin().act(name)]

    def drawn_action(self, chance):
        """Does one action of any process that can act; returns this process, None if there is none."""
        for name in chance.sample(self.names, len(self.names)):
            if self.act(name):
                return name
        return None


def drawn_run(program, capacity, chance, most):
    """A machine behind a drawn schedule that cannot go on, or has this many actions, and this schedule."""
    machine = Machine(program, capacity)
    schedule = []
    while len(schedule) < most:
        name = machine.drawn_action(chance)
        if name is None:
            break
        schedule.append(name)
    return machine, schedule


def waits_in(machine):
    """A dict from the running processes of a machine that cannot go on to the ascending lists of those they wait for."""
    running = [name for name in machine.names if name in machine.tasks and machine.tasks[name].word == "at"]
    return {name: sorted(waited_for(machine, running, machine.tasks[name])) for name in running}


def waited_for(machine, running, task):
    word, *rest = task.body[task.index]
    if word == "wait":
        return [other for other in running if len(other) == len(task.name) + 1 and other[:-1] == task.name]
    source = task.table[rest[0]] if word in ("read", "pass") else None
    if source is not None and machine.units[source[1:3]] == 0:
        return [other for other in running if source[:3] + ("w",) in machine.tasks[other].table]
    target = task.table[rest[-2]]
    reader = [use[0] for use in all_uses(machine.tasks[()].body) if use[2] == "reads" and use[3] == target[:3] + ("r",)][0]
    # Whoever runs and is the reader or one of those from which it descends.
    return [max([other for other in running if reader[:len(other)] == other], key=len)]


def all_rings(links):
    """The list of all lists of different processes each of which waits for the next one, and the last for the first."""
    return [list(ring) for many in range(1, len(links) + 1) for ring in itertools.permutations(links, many)
            if all(ring[(at + 1) % many] in links[ring[at]] for at in range(many))]


def search(program, capacity, most):
    """A dict from all states to their distance from the first, and the set of the final ones.

    None if there are more states than the limit.
    """
    start = Machine(program, capacity)
    distances = {start.state(): 0}
    final = set()
    queue = [start]
    for machine in queue:
        stays = True
        for name in machine.names:
            other = machine.twin()
            if other.act(name):
                stays = False
                if other.state() not in distances:
                    distances[other.state()] = distances[machine.state()] + 1
                    queue.append(other)
        if stays:
            final.add(machine.state())
        if len(distances) > most:
            return None
    return distances, final
