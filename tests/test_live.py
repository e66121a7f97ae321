"""Live systems: [33] and [34]."""

import copy
import random
import unittest

from drawn import drawn_calm, drawn_program, drawn_ring
from fdwires.errors import EmptyHistory, InvalidCapacity, InvalidProcess, InvalidProgram, NotCalm, NotPossible
from fdwires.live import CalmCountingSystem, CalmSystem, CountingSystem, System
from machine import Machine, all_bodies, second_fault
from support import NO_CAPACITIES, NO_LISTS, NO_PROCESSES, TupleKind, Unfriendly, assert_error

A, B, C = (), (0,), (1,)
BIG = 10 ** 30
KINDS = (System, CalmSystem, CountingSystem, CalmCountingSystem)
COUNTING = (CountingSystem, CalmCountingSystem)
IN, OUT, ERR = ("file", (), -3, "in"), ("file", (), -2, "out"), ("file", (), -1, "err")
OVER, BROKEN, NEW = ("over",), ("broken",), ("new",)

RELAY = [("pipe", 3, 4), ("fork", [("close", 4), ("read", 3, None)]), ("close", 3), ("write", 4, 1)]
EARLY = [("pipe", 3, 4), ("fork", [("close", 4), ("read", 3, 1)]), ("close", 3), ("write", 4, 2)]
# Two processes that go on for ever.
ROUND = [("pipe", 3, 4), ("pipe", 5, 6), ("fork", [("pass", 5, 4, None)]), ("write", 6, 1), ("pass", 3, 6, None)]


def at(index, moved=0):
    return ("at", index, moved)


class Shadow:
    """What a test knows of a system: a machine, the numbers of the actions, and those ahead of each call."""

    def __init__(self, program, capacity):
        self.machine = Machine(program, capacity)
        self.counts = {name: 0 for name in all_bodies(program)}
        self.past = []

    def keep(self):
        self.past.append((self.machine.twin(), dict(self.counts)))

    def act(self, name):
        if not self.machine.act(name):
            return False
        self.counts[name] += 1
        return True

    def go_on(self, name, most):
        """The number of the actions, None if the process cannot act."""
        if name not in self.machine.able():
            return None
        self.keep()
        many = 0
        while many < most and self.act(name):
            many += 1
        return many

    def finish(self):
        self.keep()
        many = 0
        while many < 400 and any(self.act(name) for name in self.machine.names):
            many += 1
        return many

    def undo(self):
        self.machine, self.counts = self.past.pop()

    def table(self, name):
        task = self.machine.tasks.get(name)
        return list(task.table) if task is not None and task.word == "at" else [None] * 10

    def twin(self):
        other = Shadow([], 1)
        other.machine, other.counts = self.machine.twin(), dict(self.counts)
        other.past = [(machine.twin(), dict(counts)) for machine, counts in self.past]
        return other


class Live(unittest.TestCase):

    def assert_like(self, system, shadow):
        """Fails unless all methods and properties that change nothing tell what the test knows."""
        self.assertEqual(shadow.machine.state(), system.state)
        self.assertEqual(shadow.machine.able(), system.able)
        self.assertEqual(len(shadow.past), len(system))
        for name in shadow.machine.names:
            self.assertEqual(shadow.table(name), system.table(name))
        places = shadow.machine.state()[0]
        described = [f"processes {len(places)}", f"running {len([place for place in places if place[0] == 'at'])}"]
        if isinstance(system, CountingSystem):
            self.assertEqual(shadow.counts, system.counts)
            self.assertEqual(sorted(shadow.counts), list(system.counts))
            described.append(f"actions {sum(shadow.counts.values())}")
        self.assertEqual(described, system.described())

    def assert_stays(self, system, call):
        """Fails unless a call leaves a system as it is."""
        before = (system.state, len(system), system.described(), system.twin())
        call()
        self.assertEqual(before, (system.state, len(system), system.described(), system))


class Kinds(Live):

    def test_bases(self):
        self.assertEqual((object,), System.__bases__)
        self.assertEqual((System,), CalmSystem.__bases__)
        self.assertEqual((System,), CountingSystem.__bases__)
        self.assertEqual({CalmSystem, CountingSystem}, set(CalmCountingSystem.__bases__))
        for kind in KINDS:
            self.assertEqual("fdwires.live", kind.__module__)

    def test_what_the_interface_lists_stands_in_the_class(self):
        for name in ("act", "go_on", "finish", "undo", "tried", "table", "twin", "described", "state", "able", "MOST", "__len__", "__eq__",
                     "__init__"):
            self.assertIn(name, vars(System))
        self.assertIn("counts", vars(CountingSystem))
        for kind in KINDS:
            self.assertIn("__init__", vars(kind))
        for name in ("state", "able"):
            self.assertIsInstance(vars(System)[name], property)
        self.assertIsInstance(vars(CountingSystem)["counts"], property)

    def test_the_most_processes(self):
        for kind in KINDS:
            self.assertEqual(8, kind.MOST)
            self.assertEqual(8, kind([], 1).MOST)

    def test_only_counting_ones_count(self):
        for kind in KINDS:
            system = kind(RELAY, 1)
            self.assertIs(kind in COUNTING, hasattr(system, "counts"))
            self.assertIs(kind in COUNTING, len(system.described()) == 3)

    def test_properties_cannot_be_assigned(self):
        system = CalmCountingSystem(RELAY, 1)
        for name in ("state", "able", "counts"):
            with self.assertRaises(AttributeError):
                setattr(system, name, None)

    def test_arguments(self):
        for kind in KINDS:
            self.assertEqual(kind(RELAY, 2), kind(capacity=2, program=RELAY))
            for value in NO_LISTS:
                assert_error(self, InvalidProgram, {"process": None, "index": None}, kind, value, 0)
            assert_error(self, InvalidProgram, {"process": (0,), "index": 0}, kind, [("wait",), ("fork", [("close", 3)])], None)
            for capacity in NO_CAPACITIES:
                assert_error(self, InvalidCapacity, {}, kind, RELAY, capacity)
                assert_error(self, InvalidCapacity, {}, kind, EARLY, capacity)

    def test_calm_ones_take_calm_programs_only(self):
        for kind in KINDS:
            if issubclass(kind, CalmSystem):
                assert_error(self, NotCalm, {"process": (), "j": 0}, kind, EARLY, 1)
                assert_error(self, NotCalm, {"process": (0,), "j": 1}, kind, [("fork", [("pipe", 3, 4)] * 2 + [("write", 4, 1)])], BIG)
            else:
                kind(EARLY, 1)
            # A run without an end is calm.
            self.assertEqual(400, kind(ROUND, 1).finish())

    def test_the_program_is_copied(self):
        for kind in KINDS:
            program = copy.deepcopy(RELAY)
            system = kind(program, 1)
            program[1][1].clear()
            program[3:] = [("wait",)]
            self.assertEqual(kind(RELAY, 1), system)
            self.assertEqual(7, system.finish())
            self.assertEqual(((OVER, OVER), (0,)), system.state)
            self.assertEqual(kind(RELAY, 1).finish(), 7)
            self.assertNotEqual(system, kind(RELAY, 1))


class Actions(Live):

    def test_act(self):
        for kind in KINDS:
            system = kind(RELAY, 1)
            self.assertEqual(((at(0), NEW), (0,)), system.state)
            for process, state in ((A, ((at(1), NEW), (0,))), (A, ((at(2), at(0)), (0,))), (A, ((at(3), at(0)), (0,))), (B, ((at(3), at(1)), (0,))),
                                   (A, ((OVER, at(1)), (1,))), (B, ((OVER, at(1, 1)), (0,))), (B, ((OVER, OVER), (0,)))):
                self.assertEqual(1, system.act(process))
                self.assertEqual(state, system.state)
            self.assertEqual([], system.able)
            self.assertEqual(7, len(system))

    def test_go_on_does_a_hundred_actions_at_the_most(self):
        for written, expected in ((97, [98]), (99, [100]), (100, [100, 1]), (250, [100, 100, 51])):
            system = CountingSystem([("pipe", 3, 4), ("write", 4, written)], BIG)
            self.assertEqual(expected, [system.go_on(A) for _ in expected])
            self.assertEqual({A: written + 1}, system.counts)
            self.assertEqual(len(expected), len(system))
            assert_error(self, NotPossible, {"index": None}, system.go_on, A)
        self.assertEqual(100, CalmSystem([("pipe", 3, 4), ("write", 4, 1), ("pass", 3, 4, None)], 2).go_on(A))

    def test_finish_does_four_hundred_actions_at_the_most(self):
        for written, expected in ((0, [0, 0]), (398, [399, 0]), (399, [400, 0]), (400, [400, 1, 0]), (BIG, [400, 400, 400])):
            program = [("pipe", 3, 4), ("write", 4, written)] if written else []
            system = CountingSystem(program, BIG)
            self.assertEqual(expected, [system.finish() for _ in expected])
            self.assertEqual(len(expected), len(system))

    def test_finish_takes_the_least_process(self):
        system = CountingSystem([("fork", [("wait",)] * 5), ("fork", [("fork", [("wait",)] * 3), ("wait",)]), ("wait",), ("write", 1, 1)], 1)
        self.assertEqual(14, system.finish())
        self.assertEqual({A: 4, B: 5, C: 2, (1, 0): 3}, system.counts)
        chosen = CountingSystem(ROUND, 1)
        chosen.finish()
        self.assertEqual(400, sum(chosen.counts.values()))
        self.assertGreater(min(chosen.counts.values()), 150)
        # The main process writes as long as there is space, and then the child takes a unit.
        filled = CountingSystem([("pipe", 3, 4), ("fork", [("close", 4), ("read", 3, BIG)]), ("close", 3), ("write", 4, BIG)], 10)
        filled.finish()
        self.assertEqual({A: 206, B: 194}, filled.counts)
        self.assertEqual(((at(3, 203), at(1, 193)), (10,)), filled.state)

    def test_who_cannot_act(self):
        for kind in KINDS:
            system = kind(RELAY, 1)
            for method in (system.act, system.go_on):
                self.assert_stays(system, lambda method=method: assert_error(self, NotPossible, {"index": None}, method, B))
            system.go_on(A)
            for method in (system.act, system.go_on):
                # The main process is over.
                self.assert_stays(system, lambda method=method: assert_error(self, NotPossible, {"index": None}, method, A))
            self.assertEqual(1, len(system))
        broken = System(EARLY, 1)
        for process in (A, A, B, A, A, B, A):
            broken.act(process)
        self.assertEqual(((BROKEN, OVER), (0,)), broken.state)
        for method in (broken.act, broken.go_on):
            assert_error(self, NotPossible, {"index": None}, method, A)

    def test_no_processes(self):
        for kind in KINDS:
            system = kind(RELAY, 1)
            system.act(A)
            for value in NO_PROCESSES:
                for method in (system.act, system.go_on, system.table):
                    self.assert_stays(system, lambda: assert_error(self, InvalidProcess, {}, method, value))
            self.assertEqual(1, len(system))

    def test_by_name(self):
        system = System(RELAY, 1)
        self.assertEqual(1, system.act(process=()))
        self.assertEqual(3, system.go_on(process=()))
        self.assertEqual([IN, OUT, ERR, ("pipe", (), 0, "r"), ("pipe", (), 0, "w")] + [None] * 5, system.table(process=(0,)))


class Undo(Live):

    def test_each_call_is_reverted(self):
        for kind in KINDS:
            system = kind(RELAY, 1)
            seen = []
            for call in (lambda: system.act(A), lambda: system.go_on(A), lambda: system.act(B), lambda: system.finish(), lambda: system.finish()):
                seen.append((system.state, system.described(), len(system)))
                call()
            for state, described, many in reversed(seen):
                self.assertIsNone(system.undo())
                self.assertEqual((state, described, many), (system.state, system.described(), len(system)))
            self.assertEqual(kind(RELAY, 1), system)
            self.assert_stays(system, lambda: assert_error(self, EmptyHistory, {}, system.undo))

    def test_a_call_that_did_nothing_is_reverted_alone(self):
        system = System(RELAY, 1)
        system.finish()
        state = system.state
        self.assertEqual(0, system.finish())
        self.assertEqual(2, len(system))
        system.undo()
        self.assertEqual((state, 1), (system.state, len(system)))
        system.undo()
        self.assertEqual((((at(0), NEW), (0,)), 0), (system.state, len(system)))
        assert_error(self, EmptyHistory, {}, system.undo)
        empty = CountingSystem([], 1)
        self.assertEqual(0, empty.finish())
        self.assertEqual(1, len(empty))
        empty.undo()
        assert_error(self, EmptyHistory, {}, empty.undo)

    def test_what_is_reverted_can_be_done_again(self):
        system = CountingSystem(RELAY, 1)
        system.go_on(A)
        system.undo()
        system.act(A)
        system.undo()
        self.assertEqual({A: 0, B: 0}, system.counts)
        self.assertEqual(7, system.finish())
        self.assertEqual({A: 4, B: 3}, system.counts)
        system.undo()
        self.assertEqual({A: 0, B: 0}, system.counts)

    def test_calls_that_raise_are_no_calls(self):
        system = System(RELAY, 1)
        system.act(A)
        for value in (B, None, C):
            with self.assertRaises((NotPossible, InvalidProcess)):
                system.act(value)
        self.assertEqual(1, len(system))
        system.undo()
        self.assertEqual(System(RELAY, 1), system)

    def test_three_hundred_calls(self):
        system = CountingSystem([("pipe", 3, 4), ("write", 4, 1000)], BIG)
        for _ in range(150):
            system.act(A)
        self.assertEqual((150, {A: 150}), (len(system), system.counts))
        for _ in range(150):
            system.undo()
        self.assertEqual(CountingSystem([("pipe", 3, 4), ("write", 4, 1000)], BIG), system)


class Tried(Live):

    def test_no_one_and_several(self):
        for kind in KINDS:
            system = kind(RELAY, 1)
            system.act(A)
            self.assert_stays(system, lambda: self.assertEqual(((at(1), NEW), (0,)), system.tried()))
            self.assert_stays(system, lambda: self.assertEqual(((at(2), at(0)), (0,)), system.tried(A)))
            self.assert_stays(system, lambda: self.assertEqual(((OVER, at(1, 1)), (0,)), system.tried(A, B, A, A, B)))
            self.assertEqual(system.tried(A, A), system.tried(*[A, A]))
            system.finish()
            self.assertEqual(system.state, system.tried())

    def test_the_first_one_that_cannot_act(self):
        for kind in KINDS:
            system = kind(RELAY, 1)
            system.act(A)
            for processes, index in (((B,), 0), ((A, A, A, A), 3), ((A, B, B), 2), ((A, A, A, None), 3), ((A, B, None, B), 2), ((None, B), 0)):
                self.assert_stays(system, lambda: assert_error(self, NotPossible, {"index": index}, system.tried, *processes))
            for value in NO_PROCESSES:
                assert_error(self, NotPossible, {"index": 0}, system.tried, value)
                assert_error(self, NotPossible, {"index": 1}, system.tried, A, value)
                assert_error(self, NotPossible, {"index": 1}, system.tried, A, value, value)

    def test_twenty(self):
        system = System([("pipe", 3, 4), ("write", 4, 30)], BIG)
        self.assertEqual(((at(1, 19),), (19,)), system.tried(*[A] * 20))
        assert_error(self, NotPossible, {"index": 19}, system.tried, *[A] * 19, B)


class Tables(Live):

    def test_running_new_broken_and_over(self):
        reading, writing = ("pipe", (), 0, "r"), ("pipe", (), 0, "w")
        system = System(EARLY, 1)
        self.assertEqual([IN, OUT, ERR] + [None] * 7, system.table(A))
        self.assertEqual([None] * 10, system.table(B))
        system.act(A)
        self.assertEqual([IN, OUT, ERR, reading, writing] + [None] * 5, system.table(A))
        self.assertEqual([None] * 10, system.table(B))
        system.act(A)
        system.act(A)
        self.assertEqual([IN, OUT, ERR, None, writing] + [None] * 5, system.table(A))
        self.assertEqual([IN, OUT, ERR, reading, writing] + [None] * 5, system.table(B))
        system.act(B)
        self.assertEqual([IN, OUT, ERR, reading] + [None] * 6, system.table(B))
        system.act(A)
        system.act(B)
        self.assertEqual([None] * 10, system.table(B))
        self.assertEqual([IN, OUT, ERR, None, writing] + [None] * 5, system.table(A))
        system.act(A)
        self.assertEqual(((BROKEN, OVER), (0,)), system.state)
        self.assertEqual([None] * 10, system.table(A))

    def test_results_are_new(self):
        system = CalmCountingSystem(RELAY, 1)
        system.act(A)
        for call in (lambda: system.table(A), lambda: system.table(B), lambda: system.able, lambda: system.counts, system.described):
            first = call()
            before = copy.deepcopy(first)
            first.clear()
            self.assertEqual(before, call())
        self.assertIs(dict, system.counts.__class__)
        self.assertIs(tuple, system.state.__class__)


class Twins(Live):

    def test_independent_and_alike(self):
        for kind in KINDS:
            system = kind(RELAY, 1)
            system.act(A)
            system.go_on(A)
            other = system.twin()
            self.assertIs(kind, other.__class__)
            self.assertIsNot(system, other)
            self.assertEqual(system, other)
            self.assertEqual((len(system), system.described()), (len(other), other.described()))
            other.finish()
            self.assertNotEqual(system, other)
            self.assertEqual(2, len(system))
            other.undo()
            self.assertEqual(system, other)
            for many in (1, 0):
                other.undo()
                self.assertEqual((2, many), (len(system), len(other)))
            self.assertEqual(kind(RELAY, 1), other)
            self.assertEqual(((OVER, at(0)), (1,)), system.state)
            system.undo()
            self.assertEqual(((at(1), NEW), (0,)), system.state)
            if kind in COUNTING:
                self.assertEqual(({A: 1, B: 0}, {A: 0, B: 0}), (system.counts, other.counts))

    def test_twins_of_twins(self):
        system = CountingSystem(RELAY, 1)
        twins = [system]
        for _ in range(4):
            twins.append(twins[-1].twin())
            twins[-1].act(A)
        self.assertEqual([0, 1, 2, 3, 4], [len(twin) for twin in twins])
        self.assertEqual([0, 1, 2, 3, 4], [twin.counts[A] for twin in twins])


class Equal(Live):

    def test_equal_and_not(self):
        for kind in KINDS:
            system = kind(RELAY, 1)
            self.assertTrue(system == kind(copy.deepcopy(RELAY), 1))
            self.assertFalse(system != kind(copy.deepcopy(RELAY), 1))
            for other in KINDS:
                self.assertIs(kind is other, system == other(RELAY, 1))
                self.assertIs(kind is not other, system != other(RELAY, 1))
            self.assertFalse(system == kind(RELAY, 2))
            self.assertFalse(system == kind(RELAY[:2], 1))
            self.assertFalse(system == kind(RELAY[:3] + [("write", 4, 2)], 1))
            other = kind(RELAY, 1)
            other.act(A)
            self.assertFalse(system == other)
            other.undo()
            self.assertTrue(system == other)

    def test_calls_and_counts_are_not_compared(self):
        first, second = CountingSystem(RELAY, 1), CountingSystem(RELAY, 1)
        first.finish()
        for process in (A, A, A, A, B, B, B):
            second.act(process)
        self.assertEqual((1, 7), (len(first), len(second)))
        self.assertTrue(first == second)
        # A pass round a ring comes back to a state, but not to the numbers of the actions.
        ring = [("pipe", 3, 4), ("pipe", 5, 6), ("fork", [("wait",)]), ("wait",), ("fork", [("wait",)])]
        several, other = CountingSystem(ring, 1), CountingSystem(ring, 1)
        several.finish()
        several.finish()
        other.finish()
        self.assertTrue(several == other)

    def test_other_values(self):
        for kind in KINDS:
            system = kind([], 1)
            for value in (None, 0, 1, "", [], (), {}, ((OVER,), ()), system.state, "System", kind, object(), [], True):
                self.assertIs(False, system == value)
                self.assertIs(False, value == system)
                self.assertIs(True, system != value)

    def test_a_class_of_the_same_name(self):
        other = type("System", (), {})()
        self.assertIs(False, System([], 1) == other)
        self.assertIs(True, other != System([], 1))

    def test_subclasses_of_others(self):
        class Own(System):
            pass
        self.assertNotEqual(System([], 1), Own([], 1))
        self.assertNotEqual(Own([], 1), System([], 1))
        self.assertEqual(Own([], 1), Own([], 1))
        self.assertIs(Own, Own([], 1).twin().__class__)


class Described(Live):

    def test_texts(self):
        system = CalmCountingSystem(RELAY, 1)
        self.assertEqual(["processes 2", "running 1", "actions 0"], system.described())
        system.act(A)
        system.act(A)
        self.assertEqual(["processes 2", "running 2", "actions 2"], system.described())
        system.finish()
        self.assertEqual(["processes 2", "running 0", "actions 7"], system.described())
        system.undo()
        self.assertEqual(["processes 2", "running 2", "actions 2"], system.described())
        self.assertEqual(["processes 1", "running 0"], System([], 1).described())
        self.assertEqual(["processes 1", "running 0", "actions 0"], CountingSystem([], 1).described())
        broken = CountingSystem([("pipe", 3, 4), ("close", 3), ("write", 4, 1), ("fork", [])], 1)
        broken.finish()
        # What becomes broken acts, too.
        self.assertEqual(["processes 2", "running 0", "actions 3"], broken.described())
        self.assertEqual({A: 3, B: 0}, broken.counts)


class Drawn(Live):

    def test_each_call_behind_each_other_one(self):
        chance = random.Random(121)
        for turn in range(160):
            program = [drawn_program, drawn_calm, drawn_ring][turn % 3](chance, 3)
            kinds = [kind for kind in KINDS if not issubclass(kind, CalmSystem) or second_fault(program) is None]
            capacity = chance.randint(1, 3)
            system, shadow = chance.choice(kinds)(program, capacity), Shadow(program, capacity)
            for _ in range(25):
                system, shadow = self.drawn_call(chance, system, shadow)
                self.assert_like(system, shadow)

    def drawn_call(self, chance, system, shadow):
        """Does a drawn call on both; returns both, or twins of them."""
        names = shadow.machine.names
        word = chance.choice(["act"] * 6 + ["go_on"] * 3 + ["finish", "undo", "undo", "tried", "twin", "wrong"])
        name = chance.choice(shadow.machine.able() or names) if chance.random() < 0.8 else chance.choice(names)
        if word in ("act", "go_on"):
            many = shadow.go_on(name, 1 if word == "act" else 100)
            method = system.act if word == "act" else system.go_on
            if many is None:
                assert_error(self, NotPossible, {"index": None}, method, name)
            else:
                self.assertEqual(many, method(name))
        elif word == "finish":
            self.assertEqual(shadow.finish(), system.finish())
        elif word == "undo":
            if shadow.past:
                shadow.undo()
                self.assertIsNone(system.undo())
            else:
                assert_error(self, EmptyHistory, {}, system.undo)
        elif word == "tried":
            self.drawn_tries(chance, system, shadow)
        elif word == "twin":
            other = system.twin()
            self.assertTrue(system == other)
            if chance.random() < 0.5:
                system.finish()
                return other, shadow.twin()
            other.finish()
        else:
            value = chance.choice(NO_PROCESSES[:6] + (TupleKind(), Unfriendly()))
            assert_error(self, InvalidProcess, {}, chance.choice([system.act, system.go_on, system.table]), value)
        return system, shadow

    def drawn_tries(self, chance, system, shadow):
        machine = shadow.machine.twin()
        processes = []
        for _ in range(chance.randrange(8)):
            processes.append(chance.choice(machine.able() or machine.names))
            if chance.random() < 0.1:
                processes[-1] = chance.choice(machine.names)
            if not machine.act(processes[-1]):
                assert_error(self, NotPossible, {"index": len(processes) - 1}, system.tried, *processes)
                return
        self.assertEqual(machine.state(), system.tried(*processes))


if __name__ == "__main__":
    unittest.main()
