"""Hangs: [25] and [26]."""

import copy
import random
import unittest

from drawn import drawn_calm, drawn_ring, scaled
from fdwires.errors import Endless, InvalidCapacity, InvalidProcess, InvalidProgram, NotCalm
from fdwires.hangs import hangs, is_ring, ring_in, safe_capacity, stuck, waits_for
from machine import all_bodies, all_rings, drawn_run, second_fault, waits_in
from support import NO_CAPACITIES, NO_LISTS, NO_PROCESSES, ListKind, TupleKind, Unfriendly, assert_error

A, B, C, D = (), (0,), (1,), (2,)
BIG = 10 ** 30
FUNCTIONS = (hangs, stuck, ring_in)

OWN = [("pipe", 3, 4), ("write", 4, 2), ("read", 3, None)]
# Two processes that read from each other.
BOTH = [("pipe", 3, 4), ("pipe", 5, 6), ("fork", [("close", 4), ("close", 5), ("read", 3, None), ("write", 6, 1)]), ("close", 3),
        ("close", 6), ("read", 5, None), ("write", 4, 1)]
# Three of them: each one reads from the one before.
THREE = [("pipe", 3, 4), ("pipe", 5, 6), ("pipe", 7, 8),
         ("fork", [("close", 4), ("close", 5), ("close", 7), ("close", 8), ("read", 3, None), ("write", 6, 1)]),
         ("fork", [("close", 3), ("close", 4), ("close", 6), ("close", 7), ("read", 5, None), ("write", 8, 1)]),
         ("close", 3), ("close", 5), ("close", 6), ("close", 8), ("read", 7, None), ("write", 4, 1)]
FINE = [("pipe", 3, 4), ("fork", [("close", 4), ("read", 3, None)]), ("close", 3), ("write", 4, 5), ("close", 4), ("wait",)]
ENDLESS = [("pipe", 3, 4), ("write", 4, 2), ("pass", 3, 4, None)]
NOT_CALM = [("pipe", 3, 4), ("fork", [("write", 4, 1)]), ("wait",)]


class Hangs(unittest.TestCase):

    def assert_links(self, program, capacity, links):
        """Fails unless all functions tell that exactly these processes are stuck, and wait for these others.

        links is a dict from processes to a pair: the index of the step, and the list of the others.
        """
        self.assertEqual(sorted((process, row[0]) for process, row in links.items()), stuck(program, capacity))
        self.assertIs(len(links) > 0, hangs(program, capacity))
        waits = {process: row[1] for process, row in links.items()}
        for process in all_bodies(program):
            self.assertEqual(waits.get(process, []), waits_for(program, capacity, process))
        rings = all_rings(waits)
        for ring in rings:
            self.assertIs(True, is_ring(program, capacity, ring))
        found = ring_in(program, capacity)
        if links:
            self.assertIn(found, rings)
            self.assertEqual(min(len(ring) for ring in rings), len(found))
        else:
            self.assertIsNone(found)
        return rings


class Reasons(Hangs):

    def test_nothing_hangs(self):
        for program in ([], [("wait",)], FINE, [("fork", [("wait",)]), ("wait",)], [("write", 1, BIG), ("read", 0, None)]):
            for capacity in (1, 2, BIG):
                self.assert_links(program, capacity, {})

    def test_the_own_writing_end(self):
        self.assert_links(OWN, 2, {A: (2, [A])})
        self.assert_links([("pipe", 3, 4), ("pass", 3, 1, None)], 1, {A: (1, [A])})
        # The end can stand at another number.
        self.assert_links([("pipe", 3, 4), ("copy", 4, 9), ("close", 4), ("read", 3, 1), ("read", 3, None)], 1, {A: (3, [A])})

    def test_the_own_full_pipe(self):
        self.assert_links(OWN, 1, {A: (1, [A])})
        full = [("pipe", 3, 4), ("write", 4, 2), ("pass", 3, 4, 2), ("close", 4), ("read", 3, None)]
        self.assert_links(full, 2, {A: (2, [A])})
        self.assert_links(full, 3, {})

    def test_each_holder_of_a_writing_end(self):
        idle = [("read", 5, None)]
        program = [("pipe", 3, 4), ("pipe", 5, 6), ("fork", idle), ("fork", [("close", 4)] + idle),
                   ("fork", [("close", 6), ("close", 5), ("read", 3, None)]), ("close", 4), ("close", 6), ("wait",)]
        self.assert_links(program, 1, {A: (7, [B, C, D]), B: (0, [B, C]), C: (1, [B, C]), D: (2, [B, D])})

    def test_waits(self):
        program = [("pipe", 3, 4), ("fork", [("wait",), ("read", 3, None)]), ("close", 3), ("close", 4), ("fork", [("write", 1, 1)]),
                   ("wait",)]
        # Children that are over do not count.
        self.assert_links(program, 1, {A: (5, [B]), B: (1, [B])})
        self.assertEqual([], waits_for(program, 1, C))
        deep = [("pipe", 3, 4), ("fork", [("fork", [("read", 3, None)])]), ("wait",), ("read", 3, 1)]
        not_a_child = [("pipe", 3, 4), ("fork", [("fork", [("read", 3, None)]), ("wait",)]), ("wait",)]
        # Whoever a child has left behind does not count, either.
        self.assert_links(deep, 1, {A: (3, [A, (0, 0)]), (0, 0): (0, [A, (0, 0)])})
        self.assert_links(not_a_child, 1, {A: (2, [B]), B: (1, [(0, 0)]), (0, 0): (0, [A, B, (0, 0)])})

    def test_a_wait_for_a_child_that_is_not_forked(self):
        program = [("pipe", 3, 4), ("fork", [("read", 3, None)]), ("wait",), ("fork", [("wait",)])]
        self.assert_links(program, 1, {A: (2, [B]), B: (0, [A, B])})
        self.assertEqual([], waits_for(program, 1, C))

    def test_the_reader_of_a_full_pipe(self):
        program = [("pipe", 3, 4), ("pipe", 5, 6), ("fork", [("close", 4), ("close", 6), ("read", 5, None), ("read", 3, None)]),
                   ("close", 3), ("close", 5), ("write", 4, 3), ("write", 6, 1)]
        self.assert_links(program, 2, {A: (5, [B]), B: (2, [A])})
        self.assert_links(program, 3, {})
        passed = program[:5] + [("pipe", 7, 8), ("write", 8, 2), ("pass", 7, 4, 2), ("close", 8), ("read", 7, None), ("write", 6, 1)]
        self.assert_links(passed, 1, {A: (6, [A]), B: (2, [A])})
        self.assert_links(passed, 2, {})
        longer = passed[:5] + [("pipe", 7, 8), ("write", 8, 1), ("pass", 7, 4, 1), ("write", 8, 1), ("pass", 7, 4, 1), ("write", 6, 1),
                               ("close", 8), ("read", 7, None)]
        self.assert_links(longer, 1, {A: (9, [B]), B: (2, [A])})

    def test_a_pass_from_an_empty_pipe_to_a_full_one(self):
        program = [("pipe", 3, 4), ("pipe", 5, 6), ("fork", [("close", 4), ("close", 3), ("close", 6), ("wait",), ("read", 5, None)]),
                   ("close", 5), ("write", 6, 1), ("pass", 3, 6, None)]
        # The reader of the full pipe goes on in any case, so the pipe is empty in the end.
        self.assert_links(program, 1, {A: (5, [A]), B: (4, [A])})
        empty = [("pipe", 3, 4), ("pipe", 5, 6), ("write", 6, 1), ("pass", 3, 6, None), ("read", 5, None)]
        # It waits for a unit, not for space.
        self.assert_links(empty, 1, {A: (3, [A])})

    def test_a_reader_that_is_not_forked(self):
        reader = ("fork", [("close", 4), ("read", 3, None)])
        early = [("pipe", 3, 4), ("write", 4, 3), reader, ("close", 3), ("close", 4), ("wait",)]
        # The writer itself is the running process that is to fork it.
        self.assert_links(early, 2, {A: (1, [A])})
        self.assert_links(early, 3, {})
        beside = [("pipe", 3, 4), ("pipe", 5, 6), ("fork", [("close", 3), ("close", 5), ("write", 4, 2), ("write", 6, 1)]), ("close", 6),
                  ("read", 5, None), reader, ("close", 4), ("wait",)]
        self.assert_links(beside, 1, {A: (4, [B]), B: (2, [A])})
        self.assert_links(beside, 2, {})

    def test_the_ancestor_with_the_longest_name(self):
        # The reader is (0, 0, 0): (0,) is over, (0, 0) is to fork it.
        reader = [("close", 4), ("read", 3, None)]
        middle = [("close", 4), ("close", 6), ("read", 5, None), ("fork", [("read", 3, None)])]
        program = [("pipe", 3, 4), ("pipe", 5, 6), ("fork", [("fork", middle)]), ("close", 3), ("close", 5), ("write", 4, 3), ("write", 6, 1)]
        self.assert_links(program, 2, {A: (5, [(0, 0)]), (0, 0): (2, [A])})
        # Here (0, 0) is not forked either, and (0,) is to do it.
        upper = [("close", 4), ("close", 6), ("read", 5, None), ("fork", [("fork", reader[1:])])]
        program = [("pipe", 3, 4), ("pipe", 5, 6), ("fork", upper), ("close", 3), ("close", 5), ("write", 4, 3), ("write", 6, 1)]
        self.assert_links(program, 2, {A: (5, [B]), B: (2, [A])})
        self.assert_links(program, 3, {})

    def test_rings_of_two_and_three(self):
        for capacity in (1, BIG):
            self.assert_links(BOTH, capacity, {A: (5, [B]), B: (2, [A])})
            rings = self.assert_links(THREE, capacity, {A: (9, [C]), B: (4, [A]), C: (4, [B])})
            self.assertEqual(sorted([[A, C, B], [B, A, C], [C, B, A]]), sorted(rings))

    def test_the_shorter_ring_of_several(self):
        # (0,) and (1,) wait for each other in a ring, and the main process only for itself.
        program = BOTH[:2] + [("fork", BOTH[2][1]), ("fork", [("close", 3), ("close", 6), ("read", 5, None), ("write", 4, 1)]),
                              ("close", 3), ("close", 4), ("close", 5), ("close", 6), ("pipe", 7, 8), ("read", 7, None)]
        self.assert_links(program, 1, {A: (9, [A]), B: (2, [C]), C: (2, [B])})
        self.assertEqual([A], ring_in(program, 1))
        waiting = program[:-2] + [("wait",)]
        self.assert_links(waiting, 1, {A: (8, [B, C]), B: (2, [C]), C: (2, [B])})

    def test_drawn_programs(self):
        chance = random.Random(91)
        seen = {}
        for turn in range(900):
            program = drawn_ring(chance, 4) if turn % 2 else self.careless(chance)
            capacity = chance.randint(1, 3)
            if second_fault(program) is not None:
                continue
            machine, schedule = drawn_run(program, capacity, chance, 500)
            if len(schedule) == 500:
                continue
            waits = waits_in(machine)
            links = {process: (machine.tasks[process].index, others) for process, others in waits.items()}
            rings = self.assert_links(program, capacity, links)
            least = min([len(ring) for ring in rings], default=0)
            seen[least] = seen.get(least, 0) + 1
        self.assertEqual([0, 1, 2, 3], sorted(seen))
        self.assertGreater(min(seen.values()), 2, seen)

    def careless(self, chance):
        """A drawn calm program some of whose closes are left out."""
        return without_closes(drawn_calm(chance, 4), chance, 0.15)


def without_closes(body, chance, share):
    """A body without a share of its closes, also in the bodies of its forks."""
    return [("fork", without_closes(step[1], chance, share)) if step[0] == "fork" else step
            for step in body if step[0] != "close" or chance.random() >= share]


class RingValues(Hangs):

    def test_where_a_ring_begins_does_not_matter(self):
        for ring in ([A, C, B], [C, B, A], [B, A, C]):
            self.assertIs(True, is_ring(THREE, 1, ring))
        for value in ([A, B, C], [C, A, B], [A, C], [A], [A, C, B, A], [A, C, B, A, C, B], [B, B], [A, A], []):
            self.assertIs(False, is_ring(THREE, 1, value), value)
        self.assertIs(True, is_ring(OWN, 1, [A]))
        for value in ([A, A], [], [B], [A, B]):
            self.assertIs(False, is_ring(OWN, 1, value))

    def test_other_values(self):
        for value in NO_LISTS + (ListKind([A]), TupleKind([A]), Unfriendly(), (A,), "()", {A: A}):
            self.assertIs(False, is_ring(OWN, 1, value))
        for item in NO_PROCESSES:
            self.assertIs(False, is_ring(OWN, 1, [item]))
            self.assertIs(False, is_ring(OWN, 1, [A, item]))
        self.assertIs(False, is_ring(BOTH, 1, [A, [0]]))
        self.assertIs(False, is_ring(BOTH, 1, [A, (False,)]))
        self.assertIs(False, is_ring(BOTH, 1, [A, (0.0,)]))
        self.assertIs(True, is_ring(BOTH, 1, [A, B]))
        self.assertIs(True, is_ring(BOTH, 1, [B, A]))
        deep = []
        deep.append(deep)
        self.assertIs(False, is_ring(OWN, 1, deep))
        self.assertIs(False, is_ring(OWN, 1, [A] * 400))

    def test_no_ring_where_nothing_hangs(self):
        for value in ([], [A], [B], [A, B], None):
            self.assertIs(False, is_ring(FINE, 1, value))
        # A process that is over, or new, is in no ring.
        program = [("pipe", 3, 4), ("fork", []), ("read", 3, None), ("fork", [])]
        self.assertIs(True, is_ring(program, 1, [A]))
        for value in ([B], [C], [A, B], [C, A]):
            self.assertIs(False, is_ring(program, 1, value))


class Capacities(Hangs):

    def test_known_ones(self):
        self.assertEqual(1, safe_capacity([]))
        self.assertEqual(1, safe_capacity(FINE))
        self.assertIsNone(safe_capacity(OWN))
        self.assertIsNone(safe_capacity(BOTH))
        self.assertEqual(2, safe_capacity([("pipe", 3, 4), ("write", 4, 2), ("close", 4), ("read", 3, None)]))
        self.assertEqual(1, safe_capacity([("pipe", 3, 4), ("write", 4, 1), ("close", 4), ("read", 3, None)]))
        # A pass to the same pipe needs space for one unit more.
        self.assertEqual(3, safe_capacity([("pipe", 3, 4), ("write", 4, 2), ("pass", 3, 4, 7), ("close", 4), ("read", 3, None)]))
        self.assertEqual(BIG + 1, safe_capacity([("pipe", 3, 4), ("write", 4, BIG), ("pass", 3, 4, 7), ("close", 4), ("read", 3, None)]))

    def test_great_ones(self):
        for parts in ([BIG], [BIG, BIG], [BIG, 1, BIG - 1], [1] * 50, [BIG] * 57):
            program = [("pipe", 3, 4)] + [("write", 4, units) for units in parts] + [("close", 4), ("read", 3, None)]
            self.assertEqual(sum(parts), safe_capacity(program))
            self.assertIs(True, hangs(program, sum(parts) - 1) if sum(parts) > 1 else True)
            self.assertIs(False, hangs(program, sum(parts)))
        two = [("pipe", 3, 4), ("pipe", 5, 6), ("fork", [("close", 4), ("close", 6), ("read", 5, BIG // 3), ("read", 3, BIG // 7), ("read", 5, None),
                                                         ("read", 3, None)]),
               ("close", 3), ("close", 5), ("write", 4, BIG // 2), ("write", 6, BIG), ("close", 6), ("close", 4)]
        self.assertEqual(BIG // 2, safe_capacity(two))
        swapped = two[:2] + [("fork", two[2][1][:2] + [two[2][1][index] for index in (3, 2, 4, 5)])] + two[3:]
        self.assertEqual(BIG // 2 - BIG // 7, safe_capacity(swapped))

    def test_endless_runs(self):
        for program in (ENDLESS, [("fork", ENDLESS), ("wait",)]):
            ring = ((),) if program == ENDLESS else ((0,),)
            assert_error(self, Endless, {"processes": ring}, safe_capacity, program)
        # It hangs with small capacities, and with others it has no end.
        self.assertIs(True, hangs(ENDLESS, 1))
        self.assertIs(True, hangs(ENDLESS, 2))
        assert_error(self, Endless, {"processes": ((),)}, hangs, ENDLESS, 3)
        great = [("pipe", 3, 4), ("write", 4, BIG), ("pass", 3, 4, None)]
        self.assertIs(True, hangs(great, BIG))
        assert_error(self, Endless, {"processes": ((),)}, hangs, great, BIG + 1)
        assert_error(self, Endless, {"processes": ((),)}, safe_capacity, great)

    def test_not_calm_comes_first(self):
        program = [("pipe", 5, 6), ("write", 6, 1)] + ENDLESS
        assert_error(self, NotCalm, {"process": (), "j": 0}, safe_capacity, program)
        for function in FUNCTIONS:
            assert_error(self, NotCalm, {"process": (), "j": 0}, function, program, 9)

    def test_drawn_programs_against_one_capacity_after_the_other(self):
        chance = random.Random(92)
        seen = {}
        for turn in range(700):
            program = drawn_ring(chance, 3) if turn % 3 == 0 else drawn_calm(chance, 4)
            if second_fault(program) is not None:
                continue
            found = self.tried(program, chance)
            if found == "endless":
                with self.assertRaises(Endless):
                    safe_capacity(program)
            else:
                self.assertEqual(found, safe_capacity(program))
            seen[found] = seen.get(found, 0) + 1
        self.assertTrue({1, 2, 3, None, "endless"} <= set(seen), seen)

    def tried(self, program, chance):
        """The least capacity with which a machine comes to its end, None if there is none, or a word if it has no end.

        The capacities are tried until one is greater than all units together.
        """
        units = sum(step[2] for body in all_bodies(program).values() for step in body if step[0] == "write")
        for capacity in range(1, units + 2):
            machine, schedule = drawn_run(program, capacity, chance, 700)
            if len(schedule) == 700:
                return "endless"
            if not waits_in(machine):
                return capacity
        return None

    def test_scaled_programs(self):
        chance = random.Random(93)
        seen = 0
        while seen < 60:
            program = drawn_calm(chance, 5)
            try:
                found = safe_capacity(program)
            except (NotCalm, Endless):
                continue
            great = scaled(program, BIG // 5)
            if found is None:
                self.assertIsNone(safe_capacity(great))
            elif found > 1:
                seen += 1
                safe = safe_capacity(great)
                self.assertIs(False, hangs(great, safe))
                self.assertIs(True, hangs(great, safe - 1))


class Arguments(Hangs):

    def test_by_name(self):
        self.assertIs(True, hangs(capacity=1, program=OWN))
        self.assertEqual([((), 1)], stuck(capacity=1, program=OWN))
        self.assertEqual([()], waits_for(process=(), capacity=1, program=OWN))
        self.assertEqual([()], ring_in(capacity=1, program=OWN))
        self.assertIs(True, is_ring(value=[()], capacity=1, program=OWN))
        self.assertIsNone(safe_capacity(program=OWN))

    def test_errors_of_arguments_come_first(self):
        for program in (OWN, NOT_CALM, ENDLESS):
            for function in FUNCTIONS:
                for value in NO_LISTS:
                    assert_error(self, InvalidProgram, {"process": None, "index": None}, function, value, 0)
                for capacity in NO_CAPACITIES:
                    assert_error(self, InvalidCapacity, {}, function, program, capacity)
            for capacity in NO_CAPACITIES:
                assert_error(self, InvalidCapacity, {}, is_ring, program, capacity, [()])
                assert_error(self, InvalidCapacity, {}, waits_for, program, capacity, None)
            for process in NO_PROCESSES:
                if program != NOT_CALM:
                    assert_error(self, InvalidProcess, {}, waits_for, program, 3, process)
        for value in NO_LISTS:
            assert_error(self, InvalidProgram, {"process": None, "index": None}, safe_capacity, value)
            assert_error(self, InvalidProgram, {"process": None, "index": None}, waits_for, value, 0, None)
            assert_error(self, InvalidProgram, {"process": None, "index": None}, is_ring, value, 0, None)
        assert_error(self, InvalidProcess, {}, waits_for, NOT_CALM, 1, (1,))
        wrong = [("wait",), ("fork", [("close", 3)])]
        for function in FUNCTIONS:
            assert_error(self, InvalidProgram, {"process": (0,), "index": 0}, function, wrong, True)
        assert_error(self, InvalidProgram, {"process": (0,), "index": 0}, safe_capacity, wrong)

    def test_not_calm_and_endless(self):
        for function in FUNCTIONS:
            assert_error(self, NotCalm, {"process": (), "j": 0}, function, NOT_CALM, 1)
            assert_error(self, Endless, {"processes": ((),)}, function, ENDLESS, 3)
        assert_error(self, NotCalm, {"process": (), "j": 0}, waits_for, NOT_CALM, 1, (0,))
        assert_error(self, Endless, {"processes": ((),)}, waits_for, ENDLESS, 3, ())
        for value in ([()], None, [], Unfriendly()):
            assert_error(self, NotCalm, {"process": (), "j": 0}, is_ring, NOT_CALM, 1, value)
            assert_error(self, Endless, {"processes": ((),)}, is_ring, ENDLESS, 3, value)

    def test_arguments_stay_and_results_are_new(self):
        program = copy.deepcopy(THREE)
        ring = [A, C, B]
        for call in (lambda: stuck(program, 1), lambda: waits_for(program, 1, A), lambda: ring_in(program, 1)):
            first = call()
            before = list(first)
            first.clear()
            self.assertEqual(before, call())
            self.assertIs(list, before.__class__)
        is_ring(program, 1, ring)
        safe_capacity(program)
        self.assertEqual([A, C, B], ring)
        self.assertEqual(THREE, program)


if __name__ == "__main__":
    unittest.main()
