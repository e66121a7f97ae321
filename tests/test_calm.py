"""Calm programs: [22] and [24]."""

import copy
import random
import unittest

from drawn import drawn_calm, drawn_program, drawn_ring, scaled
from fdwires.calm import file_lengths, is_calm, last_state, moved_units, positions, why_not_calm
from fdwires.errors import Endless, InvalidCapacity, InvalidIndex, InvalidProcess, InvalidProgram, NotCalm
from machine import Machine, all_bodies, all_tables, drawn_run, second_fault
from support import NO_CAPACITIES, NO_LISTS, NO_PROCESSES, Unfriendly, assert_error

BIG = 10 ** 30
IN, OUT, ERR = ("file", (), -3, "in"), ("file", (), -2, "out"), ("file", (), -1, "err")
OVER, NEW = ("over",), ("new",)
FUNCTIONS = (last_state, positions, file_lengths)


def at(index, moved=0):
    return ("at", index, moved)


# Programs with the first pipe that is against calm, and the word, or None.
FAULTS = [
    ([], None),
    ([("pipe", 3, 4)], None),
    ([("write", 1, 5), ("read", 0, 5), ("pass", 0, 1, 5)], None),
    ([("pipe", 3, 4), ("read", 3, 1)], None),
    ([("pipe", 3, 4), ("fork", [("read", 3, 1)]), ("fork", [("read", 3, 1)])], None),
    ([("pipe", 3, 4), ("write", 4, 1)], ((), 0, "readers")),
    ([("pipe", 3, 4), ("pass", 0, 4, 1)], ((), 0, "readers")),
    ([("pipe", 3, 4), ("write", 4, 1), ("read", 3, 1)], ((), 0, "rest")),
    ([("pipe", 3, 4), ("write", 4, 1), ("read", 3, None)], None),
    ([("pipe", 3, 4), ("read", 3, None), ("write", 4, 1)], None),
    ([("pipe", 3, 4), ("write", 4, 1), ("read", 3, None), ("read", 3, 1)], ((), 0, "rest")),
    ([("pipe", 3, 4), ("write", 4, 1), ("read", 3, 1), ("read", 3, None)], None),
    ([("pipe", 3, 4), ("write", 4, 1), ("read", 3, None), ("pass", 3, 1, 1)], ((), 0, "rest")),
    ([("pipe", 3, 4), ("write", 4, 1), ("pass", 3, 1, None)], None),
    ([("pipe", 3, 4), ("pass", 3, 4, None)], None),
    ([("pipe", 3, 4), ("pass", 3, 4, 1)], ((), 0, "rest")),
    ([("pipe", 3, 4), ("pass", 0, 4, 1), ("read", 3, None)], None),
    ([("pipe", 3, 4), ("fork", [("write", 4, 1)]), ("fork", [("write", 4, 1)]), ("read", 3, None)], ((), 0, "writers")),
    ([("pipe", 3, 4), ("fork", [("write", 4, 1)]), ("pass", 0, 4, 1), ("read", 3, None)], ((), 0, "writers")),
    ([("pipe", 3, 4), ("fork", [("write", 4, 1)]), ("fork", [("write", 4, 1)])], ((), 0, "writers")),
    ([("pipe", 3, 4), ("fork", [("write", 4, 1)]), ("write", 4, 1), ("read", 3, 1)], ((), 0, "writers")),
    ([("pipe", 3, 4), ("fork", [("read", 3, None)]), ("write", 4, 1), ("read", 3, None)], ((), 0, "readers")),
    ([("pipe", 3, 4), ("fork", [("read", 3, 1)]), ("write", 4, 1), ("pass", 3, 1, None)], ((), 0, "readers")),
    ([("pipe", 3, 4), ("fork", [("read", 3, None)]), ("write", 4, 1), ("write", 4, 1)], None),
    # A step that is never reached counts as well.
    ([("pipe", 3, 4), ("pipe", 5, 6), ("read", 5, None), ("fork", [("write", 4, 1)]), ("read", 3, None), ("write", 4, 1)],
     ((), 0, "writers")),
    # Numbers do not matter, but the pipes for which they stand.
    ([("pipe", 3, 4), ("copy", 3, 0), ("write", 4, 1), ("read", 0, None), ("pipe", 3, 4), ("read", 3, 1)], None),
    ([("pipe", 3, 4), ("copy", 3, 0), ("write", 4, 1), ("read", 3, None), ("read", 0, 1)], ((), 0, "rest")),
    # The first pipe of several.
    ([("pipe", 3, 4), ("pipe", 5, 6), ("write", 6, 1), ("read", 5, 1), ("write", 4, 1)], ((), 0, "readers")),
    ([("pipe", 3, 4), ("pipe", 5, 6), ("write", 6, 1), ("read", 5, 1), ("write", 4, 1), ("read", 3, None)], ((), 1, "rest")),
    ([("fork", [("pipe", 3, 4), ("write", 4, 1)]), ("pipe", 3, 4), ("write", 4, 1), ("read", 3, 1)], ((), 0, "rest")),
    ([("fork", [("pipe", 3, 4), ("write", 4, 1)]), ("pipe", 3, 4)], ((0,), 0, "readers")),
    ([("fork", [("pipe", 3, 4), ("fork", [("write", 4, 1)]), ("write", 4, 1)]), ("fork", [("pipe", 3, 4), ("write", 4, 1)])],
     ((0,), 0, "writers")),
    ([("fork", [("pipe", 3, 4), ("fork", [("write", 4, 1)]), ("read", 3, None)]), ("fork", [("pipe", 3, 4), ("write", 4, 1)])],
     ((1,), 0, "readers")),
]

RELAY = [("pipe", 3, 4), ("fork", [("close", 4), ("pass", 3, 1, None)]), ("close", 3), ("write", 4, 7), ("close", 4), ("wait",)]

# Two pipes, two relays, the units of which go to out and err in turns.
CHAIN = [("pipe", 3, 4), ("pipe", 5, 6),
         ("fork", [("close", 4), ("close", 5), ("pass", 3, 6, None)]),
         ("fork", [("close", 3), ("close", 4), ("close", 6), ("pass", 5, 1, 10), ("pass", 5, 2, 4), ("pass", 5, 1, None)]),
         ("close", 3), ("close", 5), ("close", 6), ("write", 4, 20), ("write", 1, 3), ("write", 4, 1), ("close", 4), ("wait",)]


class Calm(unittest.TestCase):

    def assert_course(self, program, capacity, machine):
        """Fails unless all functions tell what a machine has done."""
        self.assertEqual(machine.state(), last_state(program, capacity))
        for process, body in all_bodies(program).items():
            for index in range(len(body)):
                self.assertEqual(machine.carried.get((process, index), 0), moved_units(program, capacity, process, index))
        found = positions(program, capacity)
        self.assertEqual(machine.written, found)
        self.assertEqual(sorted(machine.written), list(found))
        lengths = {}
        for end, position in machine.written.items():
            lengths[end[3]] = max(position, lengths.get(end[3], 0))
        self.assertEqual(lengths, file_lengths(program, capacity))
        self.assertEqual(sorted(lengths), list(file_lengths(program, capacity)))

    def assert_endless(self, program, capacity, processes=None):
        """Fails unless all functions raise an error with a ring that passes units for ever; returns this ring."""
        with self.assertRaises(Endless) as caught:
            last_state(program, capacity)
        found = caught.exception.processes
        if processes is not None:
            self.assertEqual(processes, found)
        for function in FUNCTIONS:
            assert_error(self, Endless, {"processes": found}, function, program, capacity)
        assert_error(self, Endless, {"processes": found}, moved_units, program, capacity, (), 0)
        self.assert_ring(program, found)
        return found

    def assert_ring(self, program, found):
        """Fails unless each of these processes has a step that passes on to the next one in one ring of all of them."""
        self.assertIs(tuple, found.__class__)
        self.assertEqual(sorted(set(found)), list(found))
        tables = all_tables(program)
        links = {}
        for process in found:
            for index, step in enumerate(all_bodies(program)[process]):
                if step[0] == "pass" and step[3] is None:
                    source, target = [tables[process][index][number] for number in step[1:3]]
                    links.setdefault(process, []).append((source[1:3], target[1:3]))
        self.assertTrue(any(self.is_closed(list(found), links, first) for first in links[found[0]]), found)

    def is_closed(self, processes, links, first):
        """Whether all processes can follow one another from a link, so that the last one passes to the pipe of the first."""
        def follow(target, left):
            if not left:
                return target == first[0]
            return any(follow(link[1], [other for other in left if other != process])
                       for process in left for link in links[process] if link[0] == target)
        return follow(first[1], processes[1:])


class Faults(Calm):

    def test_calm_and_not_calm(self):
        for program, fault in FAULTS:
            self.assertEqual(fault, why_not_calm(program), program)
            self.assertIs(fault is None, is_calm(program))
            self.assertEqual(fault, second_fault(program))

    def test_not_calm_is_raised_by_all_others(self):
        for program, fault in FAULTS:
            if fault is not None:
                fields = {"process": fault[0], "j": fault[1]}
                for function in FUNCTIONS:
                    assert_error(self, NotCalm, fields, function, program, 1)
                assert_error(self, NotCalm, fields, moved_units, program, BIG, (), 0)

    def test_by_name(self):
        self.assertIs(True, is_calm(program=[]))
        self.assertIsNone(why_not_calm(program=[]))
        self.assertEqual(((OVER,), ()), last_state(capacity=1, program=[]))
        self.assertEqual({IN: 0, OUT: 0, ERR: 0}, positions(capacity=1, program=[]))
        self.assertEqual({"err": 0, "in": 0, "out": 0}, file_lengths(capacity=1, program=[]))
        self.assertEqual(7, moved_units(index=3, process=(), capacity=1, program=RELAY))

    def test_drawn_programs(self):
        chance = random.Random(71)
        seen = {}
        for turn in range(600):
            program = drawn_program(chance, 3, 6) if turn % 4 else drawn_calm(chance)
            fault = second_fault(program)
            self.assertEqual(fault, why_not_calm(program))
            self.assertIs(fault is None, is_calm(program))
            word = fault and fault[2]
            seen[word] = seen.get(word, 0) + 1
        self.assertEqual(4, len(seen))
        self.assertGreater(min(seen.values()), 30, seen)

    def test_arguments(self):
        for function in (is_calm, why_not_calm):
            for value in NO_LISTS:
                assert_error(self, InvalidProgram, {"process": None, "index": None}, function, value)
            assert_error(self, InvalidProgram, {"process": (), "index": 0}, function, [("write", 4, 1)])
            assert_error(self, InvalidProgram, {"process": (0,), "index": 1}, function, [("fork", [("wait",), ("write", 1, True)])])


class Courses(Calm):

    def test_the_empty_program(self):
        self.assert_course([], 1, Machine([], 1))

    def test_files_only(self):
        program = [("write", 1, 5), ("open", 1, "out"), ("write", 1, 3), ("read", 1, 9), ("pass", 0, 1, 9), ("write", 0, 2)]
        self.assertEqual(((OVER,), ()), last_state(program, 1))
        self.assertEqual({IN: 2, OUT: 5, ERR: 0, ("file", (), 0, "out"): 3}, positions(program, 1))
        self.assertEqual({"err": 0, "in": 2, "out": 5}, file_lengths(program, 1))
        self.assertEqual([5, 0, 3, 0, 0, 2], [moved_units(program, 1, (), index) for index in range(6)])

    def test_relay(self):
        for capacity in (1, 2, 6, 7, 8, BIG):
            self.assertEqual(((OVER, OVER), (0,)), last_state(RELAY, capacity))
            self.assertEqual({IN: 0, OUT: 7, ERR: 0}, positions(RELAY, capacity))
            self.assertEqual([0, 7], [moved_units(RELAY, capacity, (0,), index) for index in range(2)])
            self.assertEqual([0, 0, 0, 7, 0, 0], [moved_units(RELAY, capacity, (), index) for index in range(6)])

    def test_chain(self):
        for capacity in (1, 2, 3, 20, BIG):
            self.assertEqual(((OVER, OVER, OVER), (0, 0)), last_state(CHAIN, capacity))
            self.assertEqual({"err": 4, "in": 0, "out": 20}, file_lengths(CHAIN, capacity))
            self.assertEqual([0, 0, 0, 10, 4, 7], [moved_units(CHAIN, capacity, (1,), index) for index in range(6)])
            self.assertEqual(21, moved_units(CHAIN, capacity, (0,), 2))
            self.assertEqual([20, 3, 1], [moved_units(CHAIN, capacity, (), index) for index in range(7, 10)])

    def test_a_hang_in_the_middle(self):
        own = [("pipe", 3, 4), ("write", 4, 5), ("open", 1, "f"), ("write", 1, 4), ("read", 3, None), ("open", 1, "g")]
        self.assertEqual(((at(1, 3),), (3,)), last_state(own, 3))
        self.assertEqual({IN: 0, OUT: 0, ERR: 0}, positions(own, 3))
        self.assertEqual([0, 3, 0, 0, 0, 0], [moved_units(own, 3, (), index) for index in range(6)])
        self.assertEqual(((at(4, 5),), (0,)), last_state(own, 5))
        self.assertEqual({IN: 0, OUT: 0, ERR: 0, ("file", (), 0, "f"): 4}, positions(own, 5))
        self.assertEqual({"err": 0, "f": 4, "in": 0, "out": 0}, file_lengths(own, 5))
        self.assertEqual([0, 5, 0, 4, 5, 0], [moved_units(own, 5, (), index) for index in range(6)])

    def test_children_that_are_not_forked(self):
        program = [("pipe", 3, 4), ("fork", [("wait",)]), ("read", 3, None), ("fork", [("open", 1, "f"), ("write", 1, 1)]),
                   ("write", 4, 1)]
        self.assertEqual(((at(2), OVER, NEW), (0,)), last_state(program, 4))
        self.assertEqual({IN: 0, OUT: 0, ERR: 0}, positions(program, 4))
        self.assertEqual([0, 0], [moved_units(program, 4, (1,), index) for index in range(2)])

    def test_pipes_without_writers_can_have_several_readers(self):
        program = [("pipe", 3, 4), ("fork", [("close", 4), ("read", 3, 5)]), ("fork", [("close", 4), ("pass", 3, 1, None)]),
                   ("read", 0, 1), ("close", 4), ("read", 3, None), ("wait",)]
        self.assertEqual(((OVER, OVER, OVER), (0,)), last_state(program, 2))
        stuck = [("pipe", 3, 4), ("fork", [("read", 3, 5)]), ("fork", [("close", 4), ("pass", 3, 1, None)]), ("wait",)]
        self.assertEqual(((at(3), at(0), at(1)), (0,)), last_state(stuck, 2))

    def test_waits(self):
        program = [("pipe", 3, 4), ("fork", [("close", 4), ("wait",), ("read", 3, 2), ("read", 3, None)]), ("close", 3),
                   ("write", 4, 3), ("wait",)]
        self.assertEqual(((at(4), at(3, 1)), (0,)), last_state(program, 1))
        closed = program[:4] + [("close", 4), ("wait",)]
        self.assertEqual(((OVER, OVER), (0,)), last_state(closed, 1))
        early = [("pipe", 3, 4), ("fork", [("close", 4), ("read", 3, None)]), ("wait",), ("write", 4, 2)]
        self.assertEqual(((at(2), at(1)), (0,)), last_state(early, 1))

    def test_one_opening_in_several_hands(self):
        program = [("open", 5, "f"), ("copy", 5, 6), ("fork", [("write", 5, 3), ("open", 5, "f"), ("write", 5, 4)]), ("write", 6, 2),
                   ("pipe", 3, 4), ("write", 4, 1), ("close", 4), ("pass", 3, 5, None), ("open", 6, "f")]
        self.assertEqual({IN: 0, OUT: 0, ERR: 0, ("file", (), 0, "f"): 6, ("file", (), 1, "f"): 0, ("file", (0,), 0, "f"): 4},
                         positions(program, 1))
        self.assertEqual({"err": 0, "f": 6, "in": 0, "out": 0}, file_lengths(program, 1))

    def test_names_of_the_first_openings(self):
        program = [("open", 3, "out"), ("write", 3, 9), ("write", 1, 4), ("open", 4, "aa"), ("write", 4, 1)]
        self.assertEqual({"aa": 1, "err": 0, "in": 0, "out": 9}, file_lengths(program, 1))
        self.assertEqual(["aa", "err", "in", "out"], list(file_lengths(program, 1)))

    def test_a_pipe_to_itself(self):
        program = [("pipe", 3, 4), ("write", 4, 1), ("pass", 3, 4, 5), ("close", 4), ("read", 3, None)]
        self.assertEqual(((at(2),), (1,)), last_state(program, 1))
        self.assertEqual(((OVER,), (0,)), last_state(program, 2))
        self.assertEqual([0, 1, 5, 0, 1], [moved_units(program, 2, (), index) for index in range(5)])

    def test_drawn_programs_against_walks(self):
        chance = random.Random(72)
        seen = {"over": 0, "at": 0, "endless": 0}
        for turn in range(500):
            program = drawn_ring(chance, 5) if turn % 4 == 0 else drawn_calm(chance, chance.choice([2, 5, 9]))
            capacity = chance.randint(1, 4)
            if second_fault(program) is not None:
                continue
            machine, schedule = drawn_run(program, capacity, chance, 900)
            if len(schedule) == 900:
                self.assert_endless(program, capacity)
                seen["endless"] += 1
            else:
                self.assert_course(program, capacity, machine)
                seen["at" if "at" in repr(machine.state()) else "over"] += 1
        self.assertGreater(min(seen.values()), 5, seen)

    def test_all_schedules_come_to_one_end(self):
        chance = random.Random(73)
        for _ in range(60):
            program = drawn_calm(chance, 4)
            if second_fault(program) is None:
                ends = [drawn_run(program, 2, chance, 900) for _ in range(3)]
                if len(ends[0][1]) < 900:
                    for machine, _ in ends:
                        self.assert_course(program, 2, machine)


class Great(Calm):

    def test_great_amounts(self):
        great = scaled(CHAIN, BIG // 20)
        for capacity in (1, 2, 7, BIG // 3, BIG):
            self.assertEqual(((OVER, OVER, OVER), (0, 0)), last_state(great, capacity))
            self.assertEqual({"err": BIG // 5, "in": 0, "out": BIG}, file_lengths(great, capacity))
            self.assertEqual([10 * BIG // 20, 4 * BIG // 20, 7 * BIG // 20],
                             [moved_units(great, capacity, (1,), index) for index in range(3, 6)])

    def test_great_amounts_that_do_not_fit(self):
        program = [("pipe", 3, 4), ("write", 4, BIG), ("read", 3, None)]
        self.assertEqual(((at(1, BIG - 1),), (BIG - 1,)), last_state(program, BIG - 1))
        self.assertEqual(((at(2, BIG),), (0,)), last_state(program, BIG))
        self.assertEqual(((at(1, 1),), (1,)), last_state(program, 1))
        self.assertEqual(BIG - 1, moved_units(program, BIG - 1, (), 1))

    def test_a_long_chain(self):
        # Six relays with a pipe of 3 between any two; the last one stops to read, so all before it fill up.
        program = [("pipe", 3, 4)]
        body = [("close", 4), ("read", 3, BIG // 7), ("pipe", 5, 6), ("read", 5, 1), ("read", 3, None)]
        for _ in range(3):
            body = [("close", 4), ("pipe", 5, 6), ("fork", [("copy", 5, 3), ("close", 5), ("copy", 6, 4), ("close", 6)] + body),
                    ("close", 5), ("pass", 3, 6, None)]
        program += [("fork", body), ("close", 3), ("write", 4, BIG), ("close", 4), ("wait",)]
        self.assertIs(True, is_calm(program))
        state = last_state(program, 3)
        self.assertEqual((3, 3, 3, 3), state[1][:4])
        self.assertEqual([at(3, BIG // 7 + 12), at(4, BIG // 7 + 9), at(8, BIG // 7 + 6), at(8, BIG // 7 + 3), at(7)], list(state[0]))

    def test_a_ring_with_a_great_amount(self):
        program = [("pipe", 3, 4), ("pipe", 5, 6), ("fork", [("close", 3), ("close", 6), ("pass", 5, 4, BIG), ("close", 4), ("read", 5, None)]),
                   ("close", 4), ("close", 5), ("write", 6, 2), ("pass", 3, 6, None), ("close", 6), ("wait",)]
        self.assertIs(True, is_calm(program))
        # With a unit of space somewhere the units go round as often as the child says.
        for capacity in (2, 3, 100, BIG):
            self.assertEqual(((OVER, OVER), (0, 0)), last_state(program, capacity))
            self.assertEqual([BIG, 2], [moved_units(program, capacity, (0,), index) for index in (2, 4)])
            self.assertEqual(BIG, moved_units(program, capacity, (), 6))
        # Without it each pipe is full.
        self.assertEqual(((at(6), at(2, 1)), (1, 1)), last_state(program, 1))

    def test_programs_with_scaled_amounts(self):
        chance = random.Random(74)
        seen = 0
        while seen < 250:
            program = drawn_ring(chance, 5) if chance.random() < 0.3 else drawn_calm(chance, 5)
            capacity = chance.randint(1, 4)
            if second_fault(program) is not None:
                continue
            machine, schedule = drawn_run(program, capacity, chance, 700)
            seen += 1
            for factor in (3, BIG // 9):
                great = scaled(program, factor)
                if len(schedule) == 700:
                    self.assert_endless(great, capacity * factor)
                else:
                    self.assert_scaled(machine, great, capacity, factor)

    def assert_scaled(self, machine, great, capacity, factor):
        """Fails unless a program whose amounts and capacity are scaled does the same as the one before, scaled."""
        places, contents = machine.state()
        expected = tuple(at(place[1], place[2] * factor) if place[0] == "at" else place for place in places)
        self.assertEqual((expected, tuple(units * factor for units in contents)), last_state(great, capacity * factor))
        self.assertEqual({end: units * factor for end, units in machine.written.items()}, positions(great, capacity * factor))
        for process, body in all_bodies(great).items():
            for index in range(len(body)):
                units = machine.carried.get((process, index), 0)
                self.assertEqual(units * factor, moved_units(great, capacity * factor, process, index))

    def test_sixty_steps_of_eight_processes(self):
        # Each child takes units in parts of several sizes; with a capacity of 1 it is a step for each unit.
        parts = [("pass", 3, 6, BIG // 100 + index) for index in range(50)] + [("pass", 3, 6, None)]
        last = [("close", 4)] + [("read", 3, BIG // 90)] * 50 + [("read", 3, None)]
        body = last
        for _ in range(3):
            body = [("close", 4), ("pipe", 5, 6), ("fork", [("copy", 5, 3), ("close", 5), ("copy", 6, 4), ("close", 6)] + body),
                    ("close", 5)] + parts
        program = [("pipe", 3, 4), ("fork", body), ("close", 3)] + [("write", 4, BIG // 60)] * 50 + [("close", 4), ("wait",)]
        self.assertIs(True, is_calm(program))
        for capacity in (1, 2, BIG // 1000, BIG):
            self.assertEqual(((OVER,) * 5, (0,) * 4), last_state(program, capacity))
            total = sum(moved_units(program, capacity, (0, 0, 0, 0), index) for index in range(len(last) + 4))
            self.assertEqual(BIG // 60 * 50, total)


class Rings(Calm):

    def test_one_process(self):
        program = [("pipe", 3, 4), ("write", 4, 2), ("pass", 3, 4, None)]
        self.assert_endless(program, 3, ((),))
        self.assert_endless(program, BIG, ((),))
        self.assertEqual(((at(2),), (2,)), last_state(program, 2))
        self.assertEqual(((at(1, 1),), (1,)), last_state(program, 1))
        self.assertEqual(((at(1),), (0,)), last_state([("pipe", 3, 4), ("pass", 3, 4, None)], BIG))

    def test_two_processes(self):
        program = [("pipe", 3, 4), ("pipe", 5, 6), ("fork", [("pass", 5, 4, None)]), ("write", 6, 1), ("pass", 3, 6, None)]
        for capacity in (1, 2, BIG):
            self.assert_endless(program, capacity, ((), (0,)))
        empty = program[:3] + program[4:]
        self.assertEqual(((at(3), at(0)), (0, 0)), last_state(empty, 5))
        full = program[:2] + [("fork", [("write", 4, 3), ("pass", 5, 4, None)]), ("write", 6, 3), ("pass", 3, 6, None)]
        self.assertEqual(((at(4), at(1)), (3, 3)), last_state(full, 3))
        self.assert_endless(full, 4, ((), (0,)))

    def test_three_processes(self):
        program = [("pipe", 3, 4), ("pipe", 5, 6), ("pipe", 7, 8), ("fork", [("pass", 3, 6, None)]), ("fork", [("pass", 5, 8, None)]),
                   ("write", 4, 2), ("pass", 7, 4, None)]
        for capacity in (1, 2, 5, BIG):
            self.assert_endless(program, capacity, ((), (0,), (1,)))

    def test_three_processes_in_the_other_direction(self):
        program = [("pipe", 3, 4), ("pipe", 5, 6), ("pipe", 7, 8), ("fork", [("pass", 5, 4, None)]), ("fork", [("pass", 7, 6, None)]),
                   ("write", 8, 1), ("pass", 3, 8, None)]
        self.assert_endless(program, 1, ((), (0,), (1,)))

    def test_other_processes_are_not_in_the_ring(self):
        program = [("pipe", 3, 4), ("pipe", 5, 6), ("fork", [("write", 1, 1)]), ("fork", [("fork", [("pass", 5, 4, None)]), ("wait",)]),
                   ("fork", [("write", 6, 1), ("pass", 3, 6, None)]), ("wait",)]
        self.assert_endless(program, 2, ((1, 0), (2,)))

    def test_rings_that_begin_when_something_else_is_over(self):
        helper = ("fork", [("pipe", 7, 8), ("write", 8, 1), ("close", 8), ("read", 7, None)])
        one = [("pipe", 3, 4), ("write", 4, 1), helper, ("wait",), ("pass", 3, 4, None)]
        self.assert_endless(one, 2, ((),))
        self.assertEqual(((at(4), OVER), (1, 0)), last_state(one, 1))
        two = [("pipe", 3, 4), ("pipe", 5, 6), ("fork", [helper, ("wait",), ("pass", 5, 4, None)]), ("write", 6, 1),
               ("pass", 3, 6, None)]
        self.assert_endless(two, 1, ((), (0,)))
        amounts = [("pipe", 3, 4), ("write", 4, 1), ("pass", 3, 4, BIG), ("pass", 3, 4, 1), ("pass", 3, 4, None)]
        self.assert_endless(amounts, 2, ((),))
        # The helper hangs, so the ring never begins.
        stuck = ("fork", [("pipe", 7, 8), ("read", 7, None)])
        never = [("pipe", 3, 4), ("write", 4, 1), stuck, ("wait",), ("pass", 3, 4, None)]
        self.assertEqual(((at(3), at(1)), (1, 0)), last_state(never, 2))

    def test_a_process_with_an_amount_leaves_the_ring(self):
        program = [("pipe", 3, 4), ("pipe", 5, 6), ("fork", [("pass", 5, 4, 9), ("read", 5, None)]), ("write", 6, 1), ("pass", 3, 6, None)]
        self.assertEqual(((at(4, 9), at(1, 1)), (0, 0)), last_state(program, 1))

    def test_units_that_leave_the_ring(self):
        program = [("pipe", 3, 4), ("write", 4, 3), ("pass", 3, 4, 4), ("pass", 3, 1, 2), ("pass", 3, 4, 7), ("close", 4),
                   ("pass", 3, 2, None)]
        self.assertEqual({"err": 1, "in": 0, "out": 2}, file_lengths(program, 4))
        self.assertEqual(((at(2),), (3,)), last_state(program, 3))

    def test_two_rings(self):
        program = [("pipe", 3, 4), ("pipe", 5, 6), ("fork", [("write", 4, 1), ("pass", 3, 4, None)]), ("write", 6, 1), ("pass", 5, 6, None)]
        self.assertIn(self.assert_endless(program, 2), (((),), ((0,),)))
        one = [("pipe", 3, 4), ("pipe", 5, 6), ("fork", [("pass", 3, 4, None)]), ("write", 6, 1), ("pass", 5, 6, None)]
        self.assert_endless(one, 2, ((),))

    def test_drawn_rings(self):
        chance = random.Random(75)
        sizes = {}
        for _ in range(400):
            program = drawn_ring(chance, 3)
            capacity = chance.randint(1, 3)
            machine, schedule = drawn_run(program, capacity, chance, 400)
            if len(schedule) < 400:
                self.assertEqual(machine.state(), last_state(program, capacity))
            else:
                found = self.assert_endless(program, capacity)
                # Whoever is named still acts, whatever has been done before.
                self.assertTrue(set(found) <= set(schedule[-100:]), found)
                sizes[len(found)] = sizes.get(len(found), 0) + 1
        self.assertEqual([1, 2, 3], sorted(sizes))

    def test_not_calm_comes_first(self):
        program = [("pipe", 3, 4), ("pipe", 5, 6), ("write", 4, 1), ("pass", 3, 4, None), ("write", 6, 1)]
        for function in FUNCTIONS:
            assert_error(self, NotCalm, {"process": (), "j": 1}, function, program, 2)
        assert_error(self, NotCalm, {"process": (), "j": 1}, moved_units, program, 2, (), 0)
        self.assert_endless(program[:4], 2, ((),))


class Arguments(Calm):

    NOT_CALM = [("pipe", 3, 4), ("fork", [("write", 4, 1)]), ("wait",)]

    def test_errors_of_arguments_come_first(self):
        for program in (RELAY, self.NOT_CALM):
            for function in FUNCTIONS:
                for value in NO_LISTS:
                    assert_error(self, InvalidProgram, {"process": None, "index": None}, function, value, 0)
                for capacity in NO_CAPACITIES:
                    assert_error(self, InvalidCapacity, {}, function, program, capacity)
            for value in NO_LISTS:
                assert_error(self, InvalidProgram, {"process": None, "index": None}, moved_units, value, 0, None, None)
            for capacity in NO_CAPACITIES:
                assert_error(self, InvalidCapacity, {}, moved_units, program, capacity, None, None)
            for process in NO_PROCESSES:
                assert_error(self, InvalidProcess, {}, moved_units, program, 1, process, None)
                assert_error(self, InvalidProcess, {}, moved_units, program, 1, process, 0)
            for index in (-1, True, False, None, "0", 0.0, (), [], 60, BIG, -BIG, Unfriendly()):
                assert_error(self, InvalidIndex, {}, moved_units, program, 1, (), index)
                assert_error(self, InvalidIndex, {}, moved_units, program, 1, (0,), index)
            assert_error(self, InvalidIndex, {}, moved_units, program, 1, (), len(program))
            assert_error(self, InvalidIndex, {}, moved_units, program, 1, (0,), len(program[1][1]))
        assert_error(self, InvalidIndex, {}, moved_units, [], 1, (), 0)
        endless = [("pipe", 3, 4), ("write", 4, 1), ("pass", 3, 4, None)]
        assert_error(self, InvalidIndex, {}, moved_units, endless, 2, (), 3)
        assert_error(self, NotCalm, {"process": (), "j": 0}, moved_units, self.NOT_CALM, 1, (), 2)

    def test_wrong_programs(self):
        wrong = [("wait",), ("fork", [("close", 3)])]
        for function in FUNCTIONS:
            assert_error(self, InvalidProgram, {"process": (0,), "index": 0}, function, wrong, True)
        assert_error(self, InvalidProgram, {"process": (0,), "index": 0}, moved_units, wrong, True, 0, 0)

    def test_arguments_stay_and_results_are_new(self):
        program = copy.deepcopy(CHAIN)
        for function in FUNCTIONS[1:]:
            before = function(program, 2)
            function(program, 2).clear()
            self.assertEqual(before, function(program, 2))
            self.assertIs(dict, before.__class__)
        last_state(program, 2)
        self.assertEqual(CHAIN, program)


if __name__ == "__main__":
    unittest.main()
