"""The whole program: what all functions tell of programs that are changed in a way that does not matter much."""

import random
import unittest

from drawn import drawn_calm, drawn_copies, drawn_program, drawn_ring, without
from fdwires.calm import file_lengths, is_calm, last_state, moved_units, positions, why_not_calm
from fdwires.cures import can_cure, dead_places, fewest_closes, is_cure, needed_places, tidy, with_closes
from fdwires.ends import holders, openings_of, pipes_of, readers_of, same_opening, table_at, writers_of
from fdwires.errors import Endless, NotCalm, NotCurable, TooLarge, WireError
from fdwires.hangs import hangs, is_ring, ring_in, safe_capacity, stuck, waits_for
from fdwires.live import CalmCountingSystem, CountingSystem, System
from fdwires.programs import body_of, first_wrong, fork_place, is_program, processes_of
from fdwires.runs import after_schedule, final_states, is_schedule
from fdwires.texts import format_program, listing, parse_program
from machine import all_bodies, drawn_run

FIRST = [("file", (), -3, "in"), ("file", (), -2, "out"), ("file", (), -1, "err")]


class Change:
    """A program that does what another one does: its processes have more items ahead, other numbers, or one step more.

    spot is the place of this step, a tuple (process, index) with the names of the program before.
    """

    def __init__(self, program, prefix=(), numbers=tuple(range(10)), spot=None):
        self.program = program
        self.prefix = prefix
        self.numbers = numbers
        self.spot = spot

    def name(self, process):
        return self.prefix + process

    def has(self, process):
        """Whether a process of the changed program is one of those before."""
        return process[:len(self.prefix)] == self.prefix

    def index(self, process, index):
        """The index of a step."""
        return index + 1 if self.spot is not None and process == self.spot[0] and index >= self.spot[1] else index

    def first(self, process, index):
        """The index ahead of which something begins that held ahead of a step, and not ahead of the one before."""
        return index + 1 if self.spot is not None and process == self.spot[0] and index > self.spot[1] else index

    def end(self, end):
        return end if end is None or end[2] < 0 else (end[0], self.name(end[1])) + end[2:]

    def table(self, table):
        found = [None] * 10
        for number, end in enumerate(table):
            found[self.numbers[number]] = self.end(end)
        return found

    def place(self, process, place):
        """The place of a process in a state."""
        return ("at", self.index(process, place[1]), place[2]) if place[0] == "at" else place

    def closes(self, places):
        return sorted((self.name(process), self.first(process, index), self.numbers[number]) for process, index, number in places)


def renamed(program, numbers):
    """A program with other numbers: each step has the one that stands in a list at its own one."""
    found = []
    for step in program:
        if step[0] == "fork":
            step = ("fork", renamed(step[1], numbers))
        elif step[0] in ("pipe", "copy"):
            step = (step[0], numbers[step[1]], numbers[step[2]])
        elif step[0] == "pass":
            step = ("pass", numbers[step[1]], numbers[step[2]], step[3])
        elif len(step) > 1:
            step = (step[0], numbers[step[1]]) + step[2:]
        found.append(step)
    return found


def put_in(program, spot, step):
    """A program with one step more ahead of a place, a tuple (process, index)."""
    process, index = spot
    if process == ():
        return program[:index] + [step] + program[index:]
    at = [at for at, other in enumerate(program) if other[0] == "fork"][process[0]]
    return program[:at] + [("fork", put_in(program[at][1], (process[1:], index), step))] + program[at + 1:]


def told(function, *arguments):
    """What a function returns, or the class of its error with its fields."""
    try:
        return function(*arguments)
    except WireError as error:
        return (error.__class__, sorted(vars(error).items()))


class Whole(unittest.TestCase):

    def drawn_programs(self, chance, many):
        """Drawn calm programs with few processes; some of them leave out closes, and hang."""
        found = []
        while len(found) < many:
            program = drawn_ring(chance, 3) if chance.random() < 0.4 else drawn_calm(chance, 3)
            for _ in range(chance.choice([0, 0, 0, 1, 2])):
                closes = [(name, index) for name, body in all_bodies(program).items() for index, step in enumerate(body)
                          if step[0] == "close"]
                program = without(program, chance.choice(closes)) if closes else program
            if is_calm(program) and len(processes_of(program)) < 7 and max(len(name) for name in processes_of(program)) < 4:
                found.append(program)
        return found

    def assert_wiring(self, old, change):
        """Fails unless the processes, tables and ends are as before."""
        new = change.program
        self.assertTrue(is_program(new))
        names = processes_of(old)
        self.assertEqual([change.name(name) for name in names], [name for name in processes_of(new) if change.has(name)])
        for name in names:
            if name != ():
                self.assertEqual(change.index(name[:-1], fork_place(old, name)), fork_place(new, change.name(name)))
            for index in range(len(body_of(old, name)) + 1):
                expected = change.table(table_at(old, name, index))
                self.assertEqual(expected, table_at(new, change.name(name), change.index(name, index)))
                self.assertEqual(expected, table_at(new, change.name(name), change.first(name, index)))
        self.assertEqual([(change.name(name), j) for name, j in pipes_of(old)], [pipe for pipe in pipes_of(new) if change.has(pipe[0])])
        self.assertEqual([change.end(end) for end in openings_of(old)], [end for end in openings_of(new) if change.has(end[1])])
        for name, j in pipes_of(old):
            self.assertEqual([change.name(other) for other in writers_of(old, name, j)], writers_of(new, change.name(name), j))
            self.assertEqual([change.name(other) for other in readers_of(old, name, j)], readers_of(new, change.name(name), j))
            for side in ("r", "w"):
                expected = sorted((change.name(other), change.numbers[number], change.first(other, first), change.index(other, last))
                                  for other, number, first, last in holders(old, ("pipe", name, j, side)))
                self.assertEqual(expected, holders(new, ("pipe", change.name(name), j, side)))
        self.assertEqual(change.closes(dead_places(old)), [place for place in dead_places(new) if change.has(place[0])])
        self.assertEqual(new, parse_program(format_program(new)))
        self.assertEqual(sum(len(body) for body in all_bodies(new).values()), len(listing(new)))

    def assert_course(self, old, change, capacity):
        """Fails unless what the processes of a calm program do in the run is as before."""
        new = change.program
        before, after = last_state(old, capacity), last_state(new, capacity)
        expected = [change.place(name, place) for name, place in zip(processes_of(old), before[0])]
        self.assertEqual(expected, [place for name, place in zip(processes_of(new), after[0]) if change.has(name)])
        self.assertEqual(list(before[1]), [units for pipe, units in zip(pipes_of(new), after[1]) if change.has(pipe[0])])
        for name in processes_of(old):
            for index in range(len(body_of(old, name))):
                self.assertEqual(moved_units(old, capacity, name, index), moved_units(new, capacity, change.name(name), change.index(name, index)))
            self.assertEqual([change.name(other) for other in waits_for(old, capacity, name)], waits_for(new, capacity, change.name(name)))
        self.assertEqual([(change.name(name), change.index(name, index)) for name, index in stuck(old, capacity)],
                         [row for row in stuck(new, capacity) if change.has(row[0])])
        if hangs(old, capacity):
            self.assertIs(True, hangs(new, capacity))
            self.assertIs(True, is_ring(new, capacity, [change.name(name) for name in ring_in(old, capacity)]))
        found = positions(new, capacity)
        for end, position in positions(old, capacity).items():
            if end not in FIRST:
                self.assertEqual(position, found[change.end(end)])

    def assert_alone(self, old, change, capacity, chance):
        """Fails unless all functions tell the same of a program and a changed one that has no other processes that do much."""
        new = change.program
        if self.is_endless(old, capacity):
            for function in (positions, file_lengths, last_state, hangs, stuck, ring_in, can_cure, needed_places, fewest_closes):
                self.assertEqual(self.changed_error(told(function, old, capacity), change), told(function, new, capacity))
            return "endless"
        self.assert_course(old, change, capacity)
        self.assertEqual(file_lengths(old, capacity), file_lengths(new, capacity))
        self.assertEqual({change.end(end): units for end, units in positions(old, capacity).items()}, positions(new, capacity))
        self.assertIs(hangs(old, capacity), hangs(new, capacity))
        self.assert_cures(old, change, capacity, chance)
        self.assertEqual(self.ring_size(old, capacity), self.ring_size(new, capacity))
        self.assert_live(new, capacity)
        return "hangs" if hangs(old, capacity) else "over"

    def is_endless(self, program, capacity):
        try:
            return last_state(program, capacity) is None
        except Endless:
            return True

    def changed_error(self, found, change):
        kind, fields = found
        self.assertIs(Endless, kind)
        return (kind, [("processes", tuple(change.name(name) for name in fields[0][1]))])

    def ring_size(self, program, capacity):
        ring = ring_in(program, capacity)
        return None if ring is None else len(ring)

    def assert_cures(self, old, change, capacity, chance):
        new = change.program
        before = told(can_cure, old, capacity)
        if isinstance(before, tuple):
            self.assertEqual(self.changed_error(before, change), told(can_cure, new, capacity))
            return
        self.assertIs(before, can_cure(new, capacity))
        closes = [place for place in dead_places(old) if chance.random() < 0.7]
        self.assertIs(is_cure(old, capacity, closes), is_cure(new, capacity, change.closes(closes)))
        if not before:
            self.assertEqual(told(needed_places, old, capacity), told(needed_places, new, capacity))
            self.assertEqual(told(fewest_closes, old, capacity), told(fewest_closes, new, capacity))
            return
        self.assertEqual(change.closes(needed_places(old, capacity)), needed_places(new, capacity))
        cure = told(fewest_closes, old, capacity)
        if isinstance(cure, tuple):
            self.assertEqual(cure, told(fewest_closes, new, capacity))
        else:
            # Which one of several is the least can depend on the numbers.
            self.assertEqual(len(cure), len(fewest_closes(new, capacity)))
            self.assertIs(True, is_cure(new, capacity, change.closes(cure)))

    def assert_live(self, program, capacity):
        """Fails unless a live system comes to the final state."""
        system = CalmCountingSystem(program, capacity)
        calls = 1
        while system.finish() == 400:
            calls += 1
        self.assertEqual((last_state(program, capacity), []), (system.state, system.able))
        for _ in range(calls):
            system.undo()
        self.assertEqual((CalmCountingSystem(program, capacity), 0), (system, len(system)))

    def assert_changes(self, chance, many, changed):
        """Fails unless all functions tell the same of drawn programs and of what a function makes of them."""
        seen = {}
        for program in self.drawn_programs(chance, many):
            change = changed(program)
            self.assert_wiring(program, change)
            self.assertIsNone(why_not_calm(change.program))
            word = self.assert_alone(program, change, chance.randint(1, 3), chance)
            seen[word] = seen.get(word, 0) + 1
            self.assertEqual(self.safe(program, change), told(safe_capacity, change.program))
        self.assertEqual(["endless", "hangs", "over"], sorted(seen))

    def safe(self, program, change):
        found = told(safe_capacity, program)
        return self.changed_error(found, change) if isinstance(found, tuple) else found


class Changed(Whole):

    def test_other_numbers(self):
        chance = random.Random(131)

        def changed(program):
            numbers = [0, 1, 2] + chance.sample(range(3, 10), 7)
            return Change(renamed(program, numbers), numbers=numbers)
        self.assert_changes(chance, 120, changed)

    def test_put_into_a_child(self):
        chance = random.Random(132)

        def changed(program):
            return Change([("fork", program)] + [("wait",)] * chance.randrange(2), prefix=(0,))
        self.assert_changes(chance, 120, changed)

    def test_whoever_waits_for_a_child_that_is_stuck_is_stuck(self):
        chance = random.Random(139)
        seen = {}
        for program in self.drawn_programs(chance, 100):
            if not self.is_endless(program, 2):
                waits = [(0,)] if () in [name for name, _ in stuck(program, 2)] else []
                both = [("fork", program), ("wait",)]
                self.assertEqual(waits, waits_for(both, 2, ()))
                self.assertEqual([((), 1)] if waits else [], [row for row in stuck(both, 2) if row[0] == ()])
                seen[len(waits)] = seen.get(len(waits), 0) + 1
        self.assertEqual([0, 1], sorted(seen))

    def test_a_step_that_changes_nothing(self):
        chance = random.Random(133)

        def changed(program):
            name = chance.choice([name for name, body in all_bodies(program).items() if body])
            index = chance.randrange(len(body_of(program, name)))
            table = table_at(program, name, index)
            number = chance.choice([number for number, end in enumerate(table) if end is not None and end[-1] != "w"])
            return Change(put_in(program, (name, index), ("copy", number, number)), spot=(name, index))
        self.assert_changes(chance, 120, changed)

    def test_tables_of_programs_of_all_kinds(self):
        chance = random.Random(134)
        for turn in range(100):
            program = drawn_copies(chance, 9) if turn % 2 else drawn_program(chance, 3, 6)
            numbers = [0, 1, 2] + chance.sample(range(3, 10), 7)
            if len(processes_of(program)) < 8 and max(len(name) for name in processes_of(program)) < 4:
                self.assert_wiring(program, Change(renamed(program, numbers), numbers=numbers))
                self.assert_wiring(program, Change([("fork", program)], prefix=(0,)))

    def test_all_final_states_of_programs_of_all_kinds(self):
        chance = random.Random(135)
        seen = 0
        while seen < 40:
            program = drawn_program(chance, 2, 3)
            found = told(final_states, program, 2)
            if isinstance(found, tuple) or len(processes_of(program)) > 4 or len(max(processes_of(program), key=len)) > 3:
                continue
            seen += 1
            numbers = [0, 1, 2] + chance.sample(range(3, 10), 7)
            self.assertEqual(found, final_states(renamed(program, numbers), 2))
            inner = [((("over",),) + places, contents) for places, contents in found]
            self.assertEqual(inner, final_states([("fork", program)], 2))

    def test_schedules_of_a_child(self):
        chance = random.Random(136)
        for _ in range(60):
            program = drawn_program(chance, 3, 5)
            if len(processes_of(program)) > 7 or len(max(processes_of(program), key=len)) > 3:
                continue
            _, schedule = drawn_run(program, 2, chance, 60)
            inner = [()] + [(0,) + name for name in schedule]
            new = [("fork", program)]
            self.assertIs(True, is_schedule(new, 2, inner))
            places, contents = after_schedule(program, 2, schedule)
            self.assertEqual(((("over",),) + places, contents), after_schedule(new, 2, inner))
            system, other = CountingSystem(program, 2), System(new, 2)
            other.act(())
            for name in schedule:
                system.act(name)
                other.act((0,) + name)
            self.assertEqual([(0,) + name for name in system.able], other.able)
            self.assertEqual(len(schedule), sum(system.counts.values()))


class Beside(Whole):

    def test_two_programs_side_by_side(self):
        chance = random.Random(137)
        programs = [program for program in self.drawn_programs(chance, 250) if len(processes_of(program)) < 4]
        kinds = {"endless": [], "hangs": [], "over": []}
        for program in programs:
            kinds["endless" if self.is_endless(program, 2) else "hangs" if hangs(program, 2) else "over"].append(program)
        seen = {}
        for _ in range(120):
            first, second = [chance.choice(kinds[chance.choice(["endless"] + ["hangs", "over"] * 4)]) for _ in range(2)]
            both = [("fork", first), ("fork", second)]
            capacity = chance.choice([1, 2, 2, 2, 3])
            parts = [(first, Change(both, prefix=(0,))), (second, Change(both, prefix=(1,)))]
            for program, change in parts:
                self.assert_wiring(program, change)
            self.assertIs(True, is_calm(both))
            self.assert_safe(first, second, both)
            if self.is_endless(first, capacity) or self.is_endless(second, capacity):
                self.assertTrue(self.is_endless(both, capacity))
                continue
            for program, change in parts:
                self.assert_course(program, change, capacity)
            word = self.assert_both(parts, both, capacity)
            seen[word] = seen.get(word, 0) + 1
        self.assertGreater(min(seen.get(word, 0) for word in ("fine", "cured", "not curable")), 3, seen)

    def assert_safe(self, first, second, both):
        found = [told(safe_capacity, first), told(safe_capacity, second)]
        if any(isinstance(capacity, tuple) for capacity in found):
            self.assertIs(Endless, told(safe_capacity, both)[0])
        elif None in found:
            self.assertIsNone(safe_capacity(both))
        else:
            self.assertEqual(max(found), safe_capacity(both))

    def assert_both(self, parts, both, capacity):
        """Fails unless two programs hang, and are cured, if and only if each one of them is; returns a word for it."""
        hung = [hangs(program, capacity) for program, _ in parts]
        self.assertIs(any(hung), hangs(both, capacity))
        sizes = [self.ring_size(program, capacity) for program, _ in parts]
        self.assertEqual(min([size for size in sizes if size is not None], default=None), self.ring_size(both, capacity))
        lengths = [positions(program, capacity) for program, _ in parts]
        for end in FIRST:
            self.assertEqual(sum(found[end] for found in lengths), positions(both, capacity)[end])
        cures = [told(needed_places, program, capacity) for program, _ in parts]
        if any(isinstance(cure, tuple) and cure[0] is Endless for cure in cures):
            self.assertIs(Endless, told(needed_places, both, capacity)[0])
            return "endless"
        if any(isinstance(cure, tuple) for cure in cures):
            self.assertEqual((NotCurable, []), told(needed_places, both, capacity))
            self.assertEqual((NotCurable, []), told(fewest_closes, both, capacity))
            self.assertIs(False, can_cure(both, capacity))
            return "not curable"
        self.assertEqual([place for cure, (_, change) in zip(cures, parts) for place in change.closes(cure)], needed_places(both, capacity))
        fewest = [told(fewest_closes, program, capacity) for program, _ in parts]
        found = told(fewest_closes, both, capacity)
        if isinstance(found, tuple):
            self.assertEqual((TooLarge, [("limit", 8)]), found)
        else:
            self.assertEqual([place for cure, (_, change) in zip(fewest, parts) for place in change.closes(cure)], found)
        return "cured" if any(hung) else "fine"

    def test_closes_of_two_programs(self):
        chance = random.Random(138)
        programs = [program for program in self.drawn_programs(chance, 120) if len(processes_of(program)) < 4]
        for first, second in zip(programs[::2], programs[1::2]):
            both = [("fork", first), ("fork", second)]
            closes = [[place for place in dead_places(program) if chance.random() < 0.6] for program in (first, second)]
            expected = [("fork", with_closes(first, closes[0])), ("fork", with_closes(second, closes[1]))]
            inner = [((at,) + name, index, number) for at, places in enumerate(closes) for name, index, number in places]
            self.assertEqual(expected, with_closes(both, inner))
            self.assertEqual([("fork", tidy(first)), ("fork", tidy(second))], tidy(both))

    def test_openings_of_two_programs(self):
        program = [("open", 3, "f"), ("copy", 3, 4), ("write", 4, 5)]
        both = [("fork", program), ("fork", program)]
        self.assertEqual({"err": 0, "f": 5, "in": 0, "out": 0}, file_lengths(both, 1))
        self.assertIs(True, same_opening(both, (0,), 2, 3, (0,), 2, 4))
        self.assertIs(False, same_opening(both, (0,), 2, 3, (1,), 2, 3))
        self.assertIs(True, same_opening(both, (0,), 2, 1, (1,), 2, 1))

    def test_the_first_pipe_that_is_not_calm(self):
        calm, other, rest = [("pipe", 3, 4)], [("pipe", 3, 4), ("write", 4, 1)], [("pipe", 3, 4), ("write", 4, 1), ("read", 3, 1)]
        for first, second, expected in ((calm, other, ((1,), 0, "readers")), (other, rest, ((0,), 0, "readers")),
                                        (rest, other, ((0,), 0, "rest")), (rest, calm, ((0,), 0, "rest")), (calm, calm, None)):
            both = [("fork", first), ("fork", second)]
            self.assertEqual(expected, why_not_calm(both))
            if expected is not None:
                self.assertEqual((NotCalm, [("j", 0), ("process", expected[0])]), told(hangs, both, 1))

    def test_wrong_steps(self):
        wrong = [("wait",), ("write", 4, 1)]
        self.assertEqual(((1,), 1), first_wrong([("fork", [("wait",)]), ("fork", wrong), ("fork", wrong)]))
        self.assertEqual(((0, 0), 1), first_wrong([("fork", [("fork", wrong)]), ("fork", wrong)]))


if __name__ == "__main__":
    unittest.main()
