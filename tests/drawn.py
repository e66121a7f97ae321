"""Drawn programs."""

from fdwires.programs import first_wrong

PAIRS = ((3, 4), (5, 6), (7, 8))


def drawn_program(chance, amount=3, most=5):
    """Any program with small amounts, whose processes have a pipe or two in common."""
    body = [("pipe", 3, 4)] + ([("pipe", 5, 6)] if chance.random() < 0.4 else [])
    kinds = {0: "rw", 1: "rw", 2: "rw"}
    for _, number, other in body:
        kinds[number], kinds[other] = "r", "w"
    forks = [("fork", drawn_child(chance, kinds, [1], (amount, most))) for _ in range(chance.randint(1, 3))]
    return body + forks + drawn_child(chance, kinds, [1], (amount, most))


def drawn_child(chance, kinds, forks, limits):
    """Steps that first close some of the ends of pipes, as processes do that use one side only."""
    side = chance.choice(["r", "w", "rw"])
    closes = [number for number in kinds if number > 2 and kinds[number] and kinds[number] not in side]
    kinds = {number: "" if number in closes else kind for number, kind in kinds.items()}
    return [("close", number) for number in closes] + drawn_steps(chance, kinds, forks, limits)


def drawn_steps(chance, kinds, forks, limits):
    """Steps that are right for these kinds of numbers; forks has the number of the forks that are left."""
    kinds = dict(kinds)
    steps = []
    for _ in range(chance.randint(limits[1] // 3, limits[1])):
        step = drawn_step(chance, kinds, forks, limits)
        if step is None:
            continue
        word, *rest = step
        if word == "pipe":
            kinds[rest[0]], kinds[rest[1]] = "r", "w"
        elif word == "open":
            kinds[rest[0]] = "rw"
        elif word == "copy":
            kinds[rest[1]] = kinds[rest[0]]
        elif word == "close":
            kinds[rest[0]] = ""
        steps.append(step)
    return steps


def drawn_step(chance, kinds, forks, limits):
    """A step that is right for these kinds, None if the drawn word has none."""
    ends = [number for number in kinds if number > 2 and kinds[number]]
    files = [number for number in (0, 1) if kinds[number] == "rw" and chance.random() < 0.2]
    reading = [number for number in ends if "r" in kinds[number]] + files
    writing = [number for number in ends if "w" in kinds[number]] + files
    word = chance.choices(["pipe", "open", "copy", "wait", "fork", "close", "write", "read", "pass"],
                          [1, 1, 2, 1, 3, 4, 8, 8, 4])[0]
    amount = chance.randint(1, limits[0])
    if word == "pipe":
        return ("pipe",) + tuple(chance.sample(range(9), 2))
    if word == "open":
        return ("open", chance.randrange(1, 9), chance.choice(["f", "g", "in"]))
    if word == "copy" and ends:
        return ("copy", chance.choice(ends), chance.randrange(9))
    if word == "close" and ends:
        return ("close", chance.choice(ends))
    if word == "fork" and forks[0] > 0:
        forks[0] -= 1
        return ("fork", drawn_child(chance, kinds, forks, limits))
    if word == "write" and writing:
        return ("write", chance.choice(writing), amount)
    if word == "read" and reading:
        return ("read", chance.choice(reading), chance.choice([amount, amount, None]))
    if word == "pass" and reading and writing:
        return ("pass", chance.choice(reading), chance.choice(writing), chance.choice([amount, None]))
    return ("wait",) if word == "wait" else None


def drawn_copies(chance, most):
    """A program that copies, closes and makes ends on a few numbers, and forks a child somewhere that does likewise."""
    taken = [0, 1, 2]
    body = []
    for _ in range(most):
        word = chance.choices(["pipe", "open", "copy", "close", "fork"], [1, 1, 7, 3, 1])[0]
        number, other = chance.sample(range(4), 2)
        if word == "pipe":
            body.append(("pipe", number, other))
            taken += [number, other]
        elif word == "open":
            body.append(("open", number, "f"))
            taken.append(number)
        elif word == "copy" and taken:
            body.append(("copy", chance.choice(taken), other))
            taken.append(other)
        elif word == "close" and taken:
            body.append(("close", chance.choice(taken)))
            taken = [number for number in taken if number != body[-1][1]]
        elif word == "fork" and most > 3 and chance.random() < 0.3:
            body.append(("fork", [step for step in drawn_copies(chance, 3) if step[0] in ("open", "pipe")]))
    return body


class CalmPlan:
    """A drawn tree of processes, and for each pipe a pair of numbers, its maker, its writer and its reader."""

    def __init__(self, chance, amount):
        self.chance = chance
        self.amount = amount
        # Most programs in which an end is left open hang.
        self.careless = chance.choice([0, 0, 0, 0.1])
        self.names = [()]
        for _ in range(chance.randrange(5)):
            parent = chance.choice(self.names)
            children = [name for name in self.names if name[:-1] == parent and name != ()]
            if len(parent) < 4:
                self.names.append(parent + (len(children),))
        self.pipes = []
        ranks = chance.sample(self.names, len(self.names))
        for pair in PAIRS[:chance.randint(1, 3)]:
            writer, reader = chance.choice(ranks), chance.choice(ranks)
            # Where units go in one direction only, most runs come to their end.
            if chance.random() < 0.7 and len(ranks) > 1:
                writer, reader = sorted(chance.sample(ranks, 2), key=ranks.index)
            above = [name for name in self.names if writer[:len(name)] == name and reader[:len(name)] == name]
            self.pipes.append((pair, chance.choice(above), writer, reader))

    def units(self):
        return self.chance.randint(1, self.amount)

    def body(self, name):
        """A body for a process: it makes its pipes, uses them in a drawn order, forks somewhere, closes most ends."""
        chance = self.chance
        steps = self.mixed([self.reads(name, pair[0]) for pair, _, _, reader in self.pipes if reader == name] +
                           [self.writes(pair[1]) for pair, _, writer, _ in self.pipes if writer == name])
        children = sorted(other for other in self.names if other[:-1] == name and other != ())
        places = sorted(chance.choice([0, chance.randint(0, len(steps))]) for _ in children)
        for place, child in reversed(list(zip(places, children))):
            steps.insert(place, ("fork", child))
        if chance.random() < 0.4:
            steps.insert(chance.choice([len(steps), chance.randint(0, len(steps))]), ("wait",))
        if chance.random() < 0.2:
            steps.insert(chance.randint(0, len(steps)), ("open", chance.choice([1, 2]), chance.choice(["f", "out"])))
        for pair, maker, writer, reader in self.pipes:
            if name[:len(maker)] == maker:
                self.add_close(steps, name, pair[0], reader)
                self.add_close(steps, name, pair[1], writer)
        made = [("pipe",) + pair for pair, maker, _, _ in self.pipes if maker == name]
        return made + [("fork", self.body(step[1])) if step[0] == "fork" else step for step in steps]

    def reads(self, name, number):
        """Reads of a pipe, the last one up to the end; some of them pass."""
        chance = self.chance
        targets = [pair[1] for pair, _, writer, _ in self.pipes if writer == name] * 3 + [1, 2]
        steps = []
        for amount in [self.units() if chance.random() < 0.9 else None for _ in range(chance.randrange(3))] + [None]:
            passes = chance.random() < 0.6
            steps.append(("pass", number, chance.choice(targets), amount) if passes else ("read", number, amount))
        return steps

    def writes(self, number):
        chance = self.chance
        steps = []
        for _ in range(chance.randrange(4)):
            to_file = chance.random() < 0.15
            steps.append(("write", chance.choice([1, 2]) if to_file else number, self.units()))
        if chance.random() < 0.1:
            steps.append(("pass", 0, number, chance.choice([self.units(), None])))
        return steps

    def mixed(self, rows):
        """The items of several lists in a drawn order that keeps that of each list."""
        rows = [list(row) for row in rows if row]
        found = []
        while rows:
            row = self.chance.choice(rows)
            found.append(row.pop(0))
            rows = [row for row in rows if row]
        return found

    def add_close(self, steps, name, number, user):
        """Closes a number behind its last use, here or in a child that is still to be forked, or does not close it."""
        if self.chance.random() < self.careless:
            return
        uses = [-1]
        for index, step in enumerate(steps):
            if step[0] == "fork":
                used = user[:len(step[1])] == step[1]
            else:
                used = user == name and ((step[0] in ("read", "pass") and step[1] == number) or
                                         (step[0] == "write" and step[1] == number) or
                                         (step[0] == "pass" and step[2] == number))
            if used:
                uses.append(index)
        place = uses[-1] + 1
        steps.insert(place if self.chance.random() < 0.8 else self.chance.randint(place, len(steps)), ("close", number))


def drawn_calm(chance, amount=4):
    """A program that is calm, as a rule."""
    program = CalmPlan(chance, amount).body(())
    # A close is wrong in a child that has not inherited what it closes.
    while first_wrong(program) is not None:
        program = without(program, first_wrong(program))
    return program


def without(program, place):
    """A program without the step at a place, a tuple (process, index)."""
    process, index = place
    if process == ():
        return program[:index] + program[index + 1:]
    forks = [at for at, step in enumerate(program) if step[0] == "fork"]
    at = forks[process[0]]
    return program[:at] + [("fork", without(program[at][1], (process[1:], index)))] + program[at + 1:]


def scaled(program, factor):
    """A program with all its amounts times a factor."""
    return [("fork", scaled(step[1], factor)) if step[0] == "fork" else
            step[:-1] + (step[-1] * factor,) if step[0] in ("write", "read", "pass") and step[-1] is not None else step
            for step in program]


def drawn_ring(chance, amount=4):
    """A calm program whose one to three processes hand units round a ring of pipes, or try to."""
    many = chance.randint(1, 3)
    pairs = PAIRS[:many]
    bodies = []
    for at in range(many):
        taken, given = pairs[at][0], pairs[(at + 1) % many][1]
        closes = [("close", number) for pair in pairs for number in pair if number not in (taken, given)]
        steps = [chance.choice([("write", given, chance.randint(1, amount)), ("pass", taken, given, chance.randint(1, amount)),
                                ("read", taken, chance.randint(1, amount)), ("write", 1, chance.randint(1, amount))])
                 for _ in range(chance.randrange(5))]
        last = chance.choice([("pass", taken, given, None)] * 4 + [("read", taken, None), ("pass", taken, 2, None)])
        bodies.append(closes + steps + [last] + [("wait",)] * chance.randrange(2))
    helper = [("fork", [("write", 1, 1)]), ("wait",)] * chance.randrange(2)
    forks = [("fork", body) for body in bodies[1:]]
    return [("pipe",) + pair for pair in pairs] + helper + forks + bodies[0]
