"""Runs under each schedule: [21] and [23]."""

import copy
import random
import unittest

from drawn import drawn_calm, drawn_program, drawn_ring
from fdwires.calm import is_calm, last_state
from fdwires.errors import Endless, InvalidCapacity, InvalidProgram, NotPossible, TooLarge
from fdwires.runs import able_after, after_schedule, final_states, is_schedule, schedule_to, walk_schedule
from machine import Machine, all_bodies, drawn_run, search
from support import NO_CAPACITIES, NO_LISTS, ListKind, TupleKind, Unfriendly, assert_error

A, B, C = (), (0,), (1,)
BIG = 10 ** 30
OVER, BROKEN, NEW = ("over",), ("broken",), ("new",)


def at(index, moved=0):
    return ("at", index, moved)


def spaced(*places):
    """A state without pipes."""
    return (places, ())


class Runs(unittest.TestCase):

    def assert_walk(self, program, capacity, rows):
        """Fails unless the processes act as told: rows of a process and the state behind it, the first one for None."""
        schedule = [process for process, _ in rows[1:]]
        states = [state for _, state in rows]
        self.assertEqual(states, list(walk_schedule(program, capacity, schedule)))
        for many, state in enumerate(states):
            self.assertEqual(state, after_schedule(program, capacity, schedule[:many]))
            self.assertIs(True, is_schedule(program, capacity, schedule[:many]))
        # After all of them nobody can act.
        self.assertEqual([], able_after(program, capacity, schedule))
        self.assert_stays(program, capacity, schedule)

    def assert_stays(self, program, capacity, schedule):
        """Fails unless exactly the processes that are told to be able can act behind a schedule."""
        able = able_after(program, capacity, schedule)
        for process in list(all_bodies(program)) + [(7,), (0, 0, 0, 0, 0)]:
            further = schedule + [process]
            self.assertIs(process in able, is_schedule(program, capacity, further), further)
            if process not in able:
                assert_error(self, NotPossible, {"index": len(schedule)}, after_schedule, program, capacity, further)

    def assert_able(self, able, program, capacity, schedule):
        self.assertEqual(able, able_after(program, capacity, schedule))
        self.assert_stays(program, capacity, schedule)


class Actions(Runs):

    def test_the_empty_program(self):
        self.assert_walk([], 1, [(None, spaced(OVER))])

    def test_steps_that_change_the_table(self):
        program = [("pipe", 3, 4), ("open", 5, "f"), ("copy", 3, 6), ("copy", 6, 6), ("close", 3)]
        self.assert_walk(program, 1, [(None, ((at(0),), (0,))), (A, ((at(1),), (0,))), (A, ((at(2),), (0,))),
                                      (A, ((at(3),), (0,))), (A, ((at(4),), (0,))), (A, ((OVER,), (0,)))])

    def test_files(self):
        program = [("write", 1, BIG), ("read", 0, BIG), ("read", 0, None), ("pass", 0, 1, 5), ("pass", 1, 1, None)]
        rows = [(None, spaced(at(0)))] + [(A, spaced(at(index))) for index in range(1, 5)] + [(A, spaced(OVER))]
        for capacity in (1, 5, BIG):
            self.assert_walk(program, capacity, rows)

    def test_forks(self):
        program = [("fork", [("wait",)]), ("fork", []), ("fork", [("fork", [("wait",), ("wait",)])])]
        self.assert_walk(program, 1, [
            (None, spaced(at(0), NEW, NEW, NEW, NEW)), (A, spaced(at(1), at(0), NEW, NEW, NEW)),
            (A, spaced(at(2), at(0), OVER, NEW, NEW)), (A, spaced(OVER, at(0), OVER, at(0), NEW)),
            ((2,), spaced(OVER, at(0), OVER, OVER, at(0))), ((0,), spaced(OVER, OVER, OVER, OVER, at(0))),
            ((2, 0), spaced(OVER, OVER, OVER, OVER, at(1))), ((2, 0), spaced(OVER, OVER, OVER, OVER, OVER))])

    def test_waits(self):
        program = [("wait",), ("fork", [("wait",), ("write", 1, 1)]), ("fork", [("fork", [("wait",)])]), ("wait",), ("fork", []),
                   ("wait",)]
        self.assert_able([A], program, 1, [])
        self.assert_able([A, B], program, 1, [A, A])
        self.assert_able([B, C], program, 1, [A, A, A])
        self.assert_able([C], program, 1, [A, A, A, B, B])
        self.assert_able([B, (1, 0)], program, 1, [A, A, A, B, C])
        # Only the own children count, not what they have left behind; children that are still to be forked do not.
        self.assert_able([A, (1, 0)], program, 1, [A, A, A, B, C, B])
        self.assertEqual(spaced(OVER, OVER, OVER, at(0), OVER), after_schedule(program, 1, [A, A, A, B, B, C, A, A, A]))

    def test_a_wait_for_a_broken_child(self):
        program = [("pipe", 3, 4), ("fork", [("close", 3), ("write", 4, 1)]), ("close", 3), ("wait",)]
        self.assertEqual(((at(3), BROKEN), (0,)), after_schedule(program, 1, [A, A, A, B, B]))
        self.assert_able([A], program, 1, [A, A, A, B, B])
        self.assertEqual(((OVER, BROKEN), (0,)), after_schedule(program, 1, [A, A, A, B, B, A]))

    def test_a_write_to_a_pipe(self):
        program = [("pipe", 3, 4), ("write", 4, 3), ("wait",)]
        self.assert_walk(program, 1, [(None, ((at(0),), (0,))), (A, ((at(1),), (0,))), (A, ((at(1, 1),), (1,)))])
        self.assert_walk(program, 2, [(None, ((at(0),), (0,))), (A, ((at(1),), (0,))), (A, ((at(1, 1),), (1,))),
                                      (A, ((at(1, 2),), (2,)))])
        for capacity in (3, 4, BIG):
            self.assert_walk(program, capacity, [
                (None, ((at(0),), (0,))), (A, ((at(1),), (0,))), (A, ((at(1, 1),), (1,))), (A, ((at(1, 2),), (2,))),
                (A, ((at(2),), (3,))), (A, ((OVER,), (3,)))])

    def test_a_write_without_a_reader(self):
        program = [("pipe", 3, 4), ("write", 4, 1), ("close", 3), ("write", 4, 2)]
        rows = [(None, ((at(0),), (0,))), (A, ((at(1),), (0,))), (A, ((at(2),), (1,))), (A, ((at(3),), (1,))),
                (A, ((BROKEN,), (1,)))]
        for capacity in (1, 2, 3):
            self.assert_walk(program, capacity, rows)

    def test_a_write_that_breaks_half_way(self):
        program = [("pipe", 3, 4), ("fork", [("close", 3), ("write", 4, 2)]), ("close", 4), ("read", 3, 1), ("close", 3)]
        self.assertEqual(((OVER, at(1, 1)), (0,)), after_schedule(program, 1, [A, A, B, B, A, A, A]))
        self.assertEqual(((OVER, BROKEN), (0,)), after_schedule(program, 1, [A, A, B, B, A, A, A, B]))
        self.assert_able([], program, 1, [A, A, B, B, A, A, A, B])

    def test_a_reader_that_holds_the_end_at_another_number_or_in_a_child(self):
        program = [("pipe", 3, 4), ("copy", 3, 5), ("close", 3), ("fork", [("write", 1, 1), ("wait",)]), ("close", 5), ("write", 4, 2)]
        self.assert_able([A, B], program, 2, [A, A, A, A, A])
        self.assertEqual(((at(5, 1), at(0)), (1,)), after_schedule(program, 2, [A, A, A, A, A, A]))
        self.assertEqual(((OVER, at(1)), (2,)), after_schedule(program, 2, [A, A, A, A, A, A, B, A]))
        self.assertEqual(((BROKEN, OVER), (1,)), after_schedule(program, 2, [A, A, A, A, A, A, B, B, A]))

    def test_a_read_of_an_amount(self):
        program = [("pipe", 3, 4), ("write", 4, 3), ("read", 3, 2), ("close", 4), ("read", 3, 2)]
        self.assert_walk(program, 3, [
            (None, ((at(0),), (0,))), (A, ((at(1),), (0,))), (A, ((at(1, 1),), (1,))), (A, ((at(1, 2),), (2,))),
            (A, ((at(2),), (3,))), (A, ((at(2, 1),), (2,))), (A, ((at(3),), (1,))), (A, ((at(4),), (1,))),
            (A, ((at(4, 1),), (0,))), (A, ((OVER,), (0,)))])

    def test_a_read_up_to_the_end(self):
        program = [("pipe", 3, 4), ("write", 4, 2), ("close", 4), ("read", 3, None), ("read", 3, None), ("read", 3, 7)]
        self.assert_walk(program, 2, [
            (None, ((at(0),), (0,))), (A, ((at(1),), (0,))), (A, ((at(1, 1),), (1,))), (A, ((at(2),), (2,))),
            (A, ((at(3),), (2,))), (A, ((at(3, 1),), (1,))), (A, ((at(3, 2),), (0,))), (A, ((at(4),), (0,))),
            (A, ((at(5),), (0,))), (A, ((OVER,), (0,)))])

    def test_a_read_waits_as_long_as_a_running_process_holds_a_writing_end(self):
        program = [("pipe", 3, 4), ("fork", [("wait",), ("close", 4), ("wait",)]), ("close", 4), ("read", 3, 1)]
        self.assert_able([B], program, 1, [A, A, A])
        self.assert_able([B], program, 1, [A, A, A, B])
        self.assert_able([A, B], program, 1, [A, A, A, B, B])
        self.assertEqual(((OVER, at(2)), (0,)), after_schedule(program, 1, [A, A, A, B, B, A]))
        own = [("pipe", 3, 4), ("read", 3, None)]
        self.assert_able([], own, 1, [A])
        gone = [("pipe", 3, 4), ("fork", [("wait",)]), ("close", 4), ("read", 3, 1)]
        self.assert_able([B], gone, 1, [A, A, A])
        self.assert_able([A], gone, 1, [A, A, A, B])

    def test_a_broken_process_holds_nothing(self):
        program = [("pipe", 3, 4), ("pipe", 5, 6), ("fork", [("close", 5), ("write", 6, 1), ("wait",)]), ("close", 4), ("close", 5),
                   ("close", 6), ("read", 3, None)]
        start = [A, A, A, A, A, A, B]
        self.assertEqual(((at(6), at(1)), (0, 0)), after_schedule(program, 1, start))
        self.assert_able([B], program, 1, start)
        self.assertEqual(((at(6), BROKEN), (0, 0)), after_schedule(program, 1, start + [B]))
        self.assert_able([A], program, 1, start + [B])

    def test_a_pass_to_a_file(self):
        program = [("pipe", 3, 4), ("write", 4, 2), ("pass", 3, 1, 1), ("pass", 3, 1, 2)]
        self.assert_walk(program, 2, [
            (None, ((at(0),), (0,))), (A, ((at(1),), (0,))), (A, ((at(1, 1),), (1,))), (A, ((at(2),), (2,))),
            (A, ((at(3),), (1,))), (A, ((at(3, 1),), (0,)))])
        rest = [("pipe", 3, 4), ("write", 4, 1), ("close", 4), ("pass", 3, 1, None)]
        self.assert_walk(rest, 1, [
            (None, ((at(0),), (0,))), (A, ((at(1),), (0,))), (A, ((at(2),), (1,))), (A, ((at(3),), (1,))),
            (A, ((at(3, 1),), (0,))), (A, ((OVER,), (0,)))])

    def test_a_pass_to_a_pipe(self):
        program = [("pipe", 3, 4), ("pipe", 5, 6), ("write", 4, 3), ("pass", 3, 6, 3)]
        begin = [(None, ((at(0),), (0, 0))), (A, ((at(1),), (0, 0))), (A, ((at(2),), (0, 0))), (A, ((at(2, 1),), (1, 0)))]
        self.assert_walk(program, 1, begin)
        more = begin + [(A, ((at(2, 2),), (2, 0))), (A, ((at(3),), (3, 0))), (A, ((at(3, 1),), (2, 1))),
                        (A, ((at(3, 2),), (1, 2))), (A, ((OVER,), (0, 3)))]
        self.assert_walk(program, 3, more)

    def test_a_pass_to_a_full_pipe(self):
        program = [("pipe", 3, 4), ("pipe", 5, 6), ("write", 4, 1), ("write", 6, 1), ("pass", 3, 6, 1)]
        self.assert_able([], program, 1, [A] * 4)
        self.assert_able([A], program, 2, [A] * 4)
        self.assertEqual(((OVER,), (0, 2)), after_schedule(program, 2, [A] * 5))

    def test_a_pass_to_a_pipe_without_a_reader(self):
        for capacity in (1, 2):
            # The unit stays, also if the pipe is full.
            program = [("pipe", 3, 4), ("pipe", 5, 6), ("write", 4, 1), ("write", 6, 1), ("close", 5), ("pass", 3, 6, None)]
            self.assert_able([A], program, capacity, [A] * 5)
            self.assertEqual(((BROKEN,), (1, 1)), after_schedule(program, capacity, [A] * 6))
            # Without a unit it waits, or is done, although nobody reads there.
            empty = [("pipe", 3, 4), ("pipe", 5, 6), ("close", 5), ("pass", 3, 6, None)]
            self.assert_able([], empty, capacity, [A] * 3)
            done = [("pipe", 3, 4), ("pipe", 5, 6), ("close", 5), ("close", 4), ("pass", 3, 6, 4)]
            self.assertEqual(((OVER,), (0, 0)), after_schedule(done, capacity, [A] * 5))

    def test_a_pass_from_a_file_to_a_pipe(self):
        program = [("pipe", 3, 4), ("close", 3), ("pass", 0, 4, 5), ("pass", 0, 4, None)]
        self.assert_walk(program, 1, [(None, ((at(0),), (0,))), (A, ((at(1),), (0,))), (A, ((at(2),), (0,))),
                                      (A, ((at(3),), (0,))), (A, ((OVER,), (0,)))])

    def test_a_pass_to_the_same_pipe(self):
        program = [("pipe", 3, 4), ("write", 4, 1), ("pass", 3, 4, 2), ("close", 4), ("read", 3, None)]
        self.assert_able([], program, 1, [A, A])
        self.assert_walk(program, 2, [
            (None, ((at(0),), (0,))), (A, ((at(1),), (0,))), (A, ((at(2),), (1,))), (A, ((at(2, 1),), (1,))),
            (A, ((at(3),), (1,))), (A, ((at(4),), (1,))), (A, ((at(4, 1),), (0,))), (A, ((OVER,), (0,)))])
        full = [("pipe", 3, 4), ("write", 4, 2), ("pass", 3, 4, None)]
        self.assert_able([], full, 2, [A, A, A])
        self.assert_able([A], full, 3, [A, A, A])
        self.assert_able([], [("pipe", 3, 4), ("pass", 3, 4, None)], 3, [A])

    def test_each_pipe_has_its_own_contents(self):
        program = [("fork", [("pipe", 3, 4), ("write", 4, 2)]), ("pipe", 3, 4), ("pipe", 3, 5), ("write", 5, 1), ("write", 4, 1)]
        self.assertEqual(((at(4), at(1, 1)), (0, 1, 1)), after_schedule(program, 2, [A, A, A, A, B, B]))
        self.assertEqual(((BROKEN, OVER), (0, 1, 2)), after_schedule(program, 2, [A, A, A, A, B, B, B, A]))

    def test_units_stay_in_a_pipe_that_nobody_holds(self):
        program = [("pipe", 3, 4), ("write", 4, 2), ("close", 3), ("close", 4)]
        self.assertEqual(((OVER,), (2,)), after_schedule(program, 2, [A] * 5))


class Schedules(Runs):

    RELAY = [("pipe", 3, 4), ("fork", [("close", 4), ("read", 3, None)]), ("close", 3), ("write", 4, 1)]

    def test_drawn_runs(self):
        chance = random.Random(61)
        broken = 0
        for _ in range(300):
            program = drawn_program(chance, 3, 7)
            capacity = chance.randint(1, 3)
            machine, schedule = drawn_run(program, capacity, chance, chance.choice([5, 60]))
            broken += "broken" in repr(machine.state())
            self.assertIs(True, is_schedule(program, capacity, schedule))
            self.assertEqual(machine.state(), after_schedule(program, capacity, schedule))
            self.assertEqual(machine.able(), able_after(program, capacity, schedule))
        self.assertGreater(broken, 20)

    def test_drawn_walks(self):
        chance = random.Random(62)
        for _ in range(60):
            program = drawn_program(chance, 3, 5)
            capacity = chance.randint(1, 3)
            schedule = drawn_run(program, capacity, chance, 40)[1]
            machine = Machine(program, capacity)
            states = [machine.state()]
            for process in schedule:
                machine.act(process)
                states.append(machine.state())
            self.assertEqual(states, list(walk_schedule(program, capacity, schedule)))

    def test_spoilt_schedules(self):
        chance = random.Random(63)
        spoilt = 0
        for _ in range(300):
            program = drawn_program(chance, 3, 5)
            capacity = chance.randint(1, 2)
            schedule = drawn_run(program, capacity, chance, 30)[1]
            place = chance.randint(0, len(schedule))
            names = list(all_bodies(program)) + [(9,)]
            schedule[place:place + chance.randrange(2)] = [chance.choice(names)]
            machine = Machine(program, capacity)
            wrong = next((index for index, process in enumerate(schedule) if not machine.act(process)), None)
            self.assertIs(wrong is None, is_schedule(program, capacity, schedule))
            if wrong is not None:
                spoilt += 1
                for function in (after_schedule, able_after):
                    assert_error(self, NotPossible, {"index": wrong}, function, program, capacity, schedule)
                assert_error(self, NotPossible, {"index": wrong}, lambda *args: next(walk_schedule(*args)), program, capacity,
                             schedule)
        self.assertGreater(spoilt, 150)

    def test_no_items_and_wrong_items(self):
        wrong_items = (None, True, 0, "", "()", [], [0], {}, (7,), (-1,), (False,), (0.0,), ("0",), ((),), ([],), TupleKind(),
                       TupleKind((0,)), Unfriendly(), (Unfriendly(),), (0, 0), (None,))
        self.assertIs(True, is_schedule(self.RELAY, 1, []))
        self.assertEqual(((at(0), NEW), (0,)), after_schedule(self.RELAY, 1, []))
        for item in wrong_items:
            for start in ([], [A], [A, A]):
                self.assertIs(False, is_schedule(self.RELAY, 1, start + [item]))
                self.assertIs(False, is_schedule(self.RELAY, 1, start + [item, A]))
                for function in (after_schedule, able_after):
                    assert_error(self, NotPossible, {"index": len(start)}, function, self.RELAY, 1, start + [item, A])

    def test_a_child_acts_only_while_it_runs(self):
        self.assertIs(False, is_schedule(self.RELAY, 1, [B]))
        self.assertIs(False, is_schedule(self.RELAY, 1, [A, B]))
        self.assertIs(True, is_schedule(self.RELAY, 1, [A, A, B]))
        whole = [A, A, A, A, B, B, B]
        self.assertEqual(((OVER, OVER), (0,)), after_schedule(self.RELAY, 1, whole))
        for process in (A, B):
            assert_error(self, NotPossible, {"index": 7}, after_schedule, self.RELAY, 1, whole + [process])

    def test_no_lists(self):
        for value in NO_LISTS + (ListKind(), ListKind([A]), Unfriendly()):
            self.assertIs(False, is_schedule(self.RELAY, 1, value))
            for function in (after_schedule, able_after):
                assert_error(self, NotPossible, {"index": None}, function, self.RELAY, 1, value)
            assert_error(self, NotPossible, {"index": None}, lambda *args: list(walk_schedule(*args)), self.RELAY, 1, value)

    def test_long_schedules(self):
        program = [("pipe", 3, 4), ("write", 4, 1), ("pass", 3, 4, None)]
        self.assertEqual(((at(2, 1998),), (1,)), after_schedule(program, 2, [A] * 2000))
        self.assertIs(True, is_schedule(program, 2, [A] * 2000))
        self.assertIs(False, is_schedule(program, 2, [A] * 2000 + [B]))
        self.assertEqual(2001, len(list(walk_schedule(program, 2, [A] * 2000))))
        long = [("pipe", 3, 4), ("write", 4, BIG)]
        self.assertEqual(((at(1, 999),), (999,)), after_schedule(long, BIG, [A] * 1000))

    def test_walks_tell_all_errors_first(self):
        walk = walk_schedule(self.RELAY, 1, [A, A, A, A, A])
        assert_error(self, NotPossible, {"index": 4}, next, walk)
        self.assertEqual([((at(0), NEW), (0,))], list(walk_schedule(self.RELAY, 1, [])))
        self.assertEqual(3, len(list(walk_schedule(schedule=[A, A], capacity=1, program=self.RELAY))))
        walk = walk_schedule(self.RELAY, 1, [A, A])
        self.assertEqual(((at(0), NEW), (0,)), next(walk))
        self.assertEqual(((at(1), NEW), (0,)), next(walk))
        self.assertEqual(((at(2), at(0)), (0,)), next(walk))
        with self.assertRaises(StopIteration):
            next(walk)

    def test_arguments_stay_and_results_are_new(self):
        program = copy.deepcopy(self.RELAY)
        schedule = [A, A]
        able_after(program, 1, schedule).append("spoilt")
        self.assertEqual([A, B], able_after(program, 1, schedule))
        list(walk_schedule(program, 1, schedule))
        self.assertEqual([A, A], schedule)
        self.assertEqual(self.RELAY, program)

    def test_wrong_arguments_in_their_order(self):
        functions = [is_schedule, after_schedule, able_after, lambda *args: list(walk_schedule(*args)),
                     lambda program, capacity, _: final_states(program, capacity), schedule_to]
        for function in functions:
            for value in NO_LISTS:
                assert_error(self, InvalidProgram, {"process": None, "index": None}, function, value, 0, None)
            assert_error(self, InvalidProgram, {"process": (), "index": 1}, function, [("wait",), ["wait"]], None, [B])
            for capacity in NO_CAPACITIES:
                assert_error(self, InvalidCapacity, {}, function, self.RELAY, capacity, None)
                assert_error(self, InvalidCapacity, {}, function, self.RELAY, capacity, [B])


class States(Runs):

    def assert_states(self, program, capacity, found):
        """Fails unless the final states, and schedules to all states, are those of a search."""
        distances, final = found
        self.assertEqual(sorted(final), final_states(program, capacity))
        for state, distance in distances.items():
            schedule = schedule_to(program, capacity, state)
            self.assertEqual(distance, len(schedule))
            self.assertEqual(state, after_schedule(program, capacity, schedule))

    def test_drawn_programs_against_a_search(self):
        chance = random.Random(64)
        many = {}
        searched = 0
        while searched < 150:
            program = drawn_program(chance, 2, 5)
            capacity = chance.randint(1, 3)
            found = search(program, capacity, 60)
            if found is not None:
                self.assert_states(program, capacity, found)
                searched += 1
                many[len(found[1])] = many.get(len(found[1]), 0) + 1
        self.assertGreater(sum(many[size] for size in many if size > 1), 15, many)

    def test_larger_programs_against_a_search(self):
        chance = random.Random(65)
        several = 0
        for _ in range(120):
            program = drawn_program(chance, 3, 6)
            capacity = chance.randint(1, 3)
            found = search(program, capacity, 600)
            if found is not None:
                self.assertEqual(sorted(found[1]), final_states(program, capacity))
                state = chance.choice(sorted(found[0]))
                self.assertEqual(found[0][state], len(schedule_to(program, capacity, state)))
                several += len(found[1]) > 2
        self.assertGreater(several, 10)

    def test_calm_programs_have_one_final_state(self):
        chance = random.Random(66)
        seen = 0
        for turn in range(120):
            program = drawn_ring(chance, 2) if turn % 3 == 0 else drawn_calm(chance, 2)
            capacity = chance.randint(1, 2)
            if is_calm(program) and search(program, capacity, 300) is not None:
                self.assertEqual([last_state(program, capacity)], final_states(program, capacity))
                self.assertNotIn("broken", repr(final_states(program, capacity)))
                seen += 1
        self.assertGreater(seen, 20)

    def test_several_final_states(self):
        # Whoever is first takes the only unit.
        program = [("pipe", 3, 4), ("fork", [("read", 3, 1)]), ("fork", [("read", 3, 1)]), ("write", 4, 1), ("wait",)]
        self.assertEqual([((at(4), at(0), OVER), (0,)), ((at(4), OVER, at(0)), (0,))], final_states(program, 1))
        self.assertEqual([((at(4), at(0), OVER), (0,)), ((at(4), OVER, at(0)), (0,))], final_states(program, 2))
        early = [("pipe", 3, 4), ("fork", [("close", 4), ("read", 3, 1)]), ("close", 3), ("write", 4, 2)]
        self.assertEqual([((BROKEN, OVER), (0,))], final_states(capacity=1, program=early))
        self.assertEqual([((BROKEN, OVER), (0,)), ((OVER, OVER), (1,))], final_states(early, 2))
        self.assertEqual([spaced(OVER)], final_states([], 7))

    def test_final_states_are_ascending(self):
        program = [("pipe", 3, 4)] + [("fork", [("read", 3, 1)]) for _ in range(4)] + [("write", 4, 2)]
        states = final_states(program, 1)
        self.assertEqual(6, len(states))
        self.assertEqual(sorted(states), states)

    def test_four_thousand_states(self):
        # One state ahead of the pipe, one for each unit, one behind all steps.
        for units, capacity in ((3998, 3998), (3998, BIG), (BIG, 3997)):
            program = [("pipe", 3, 4), ("write", 4, units)]
            last = min(units, capacity)
            expected = ((OVER if units == last else at(1, last),), (last,))
            if units == last:
                self.assertEqual([expected], final_states(program, capacity))
                self.assertEqual([A] * (last + 1), schedule_to(program, capacity, expected))
            self.assertIsNone(schedule_to(program, capacity, ((OVER,), (BIG,))))
        self.assertEqual([((at(1, 3998),), (3998,))], final_states([("pipe", 3, 4), ("write", 4, BIG)], 3998))

    def test_more_than_four_thousand_states(self):
        first = ((at(0),), (0,))
        for units, capacity in ((3999, 3999), (3999, BIG), (BIG, 3999), (BIG, BIG)):
            program = [("pipe", 3, 4), ("write", 4, units)]
            assert_error(self, TooLarge, {"limit": 4000}, final_states, program, capacity)
            # However near a state is, and whatever the value.
            for value in (first, None, "state", (), ((OVER,), (BIG,))):
                assert_error(self, TooLarge, {"limit": 4000}, schedule_to, program, capacity, value)

    def test_many_states_side_by_side(self):
        # With n children there are 3 ** n states behind the n-th fork: 3280 in all for seven, 5461 for six with 4 each.
        program = [("fork", [("wait",), ("wait",)]) for _ in range(7)]
        self.assertEqual([spaced(*[OVER] * 8)], final_states(program, 1))
        assert_error(self, TooLarge, {"limit": 4000}, final_states, [("fork", [("wait",)] * 3) for _ in range(6)], 1)

    def test_runs_without_an_end_have_too_many_states(self):
        program = [("pipe", 3, 4), ("write", 4, 1), ("pass", 3, 4, None)]
        assert_error(self, TooLarge, {"limit": 4000}, final_states, program, 2)
        assert_error(self, Endless, {"processes": ((),)}, last_state, program, 2)
        self.assertEqual([((at(2),), (1,))], final_states(program, 1))

    def test_values_that_are_no_states(self):
        program = [("pipe", 3, 4), ("fork", [("wait",)]), ("write", 4, 2)]
        state = ((at(2, 1), at(0)), (1,))
        self.assertEqual([A, A, A], schedule_to(program, 2, state))
        for value in (None, True, 0, "", "state", (), [], {}, b"", Unfriendly(), state[0], state + ((),), state[:1],
                      list(state), (list(state[0]), state[1]), (state[0], list(state[1])), [state],
                      ((["at", 2, 1], at(0)), (1,)), ((at(2, True), at(0)), (1,)), ((at(2, 1), at(False)), (1,)),
                      ((at(2, 1), at(0, False)), (1,)), ((at(2, 1), at(0)), (True,)), ((at(2, 1.0), at(0)), (1,)),
                      ((at(2, 1), at(0)), (1.0,)), ((at(2, 1), at(0)), ("1",)), ((at(2, 1), at(0)), ()),
                      ((at(2, 1), at(0)), (1, 0)), ((at(2, 1),), (1,)), ((at(2, 1), at(0), NEW), (1,)),
                      ((at(2, 1), ("at", 0)), (1,)), ((at(2, 1), ("at", 0, 0, 0)), (1,)), ((at(2, 1), "at"), (1,)),
                      ((at(2, 1), None), (1,)), ((at(2, 1), Unfriendly()), (1,)), (Unfriendly(), (1,)),
                      ((at(2, 1), at(0)), Unfriendly()), ((at(2, 1), at(0)), (Unfriendly(),)),
                      ((at(2, 1), (Unfriendly(), 0, 0)), (1,)), ((at(2, 1), ("AT", 0, 0)), (1,)),
                      TupleKind(state), (TupleKind(state[0]), state[1]), ((at(2, 1), TupleKind(at(0))), (1,)),
                      ((at(2, 2), at(0)), (2,)), ((at(2, 1), at(0)), (0,)), ((at(0), at(0)), (0,)), ((at(3), OVER), (2,)),
                      ((BROKEN, OVER), (0,)), ((OVER, NEW), (2,)), ((at(2, 1), BROKEN), (1,)), ((at(2, 1), NEW), (1,))):
            self.assertIsNone(schedule_to(program, 2, value))
        self.assertEqual([], schedule_to(program, 2, ((at(0), NEW), (0,))))
        self.assertEqual([A] * 4 + [B], schedule_to(state=((OVER, OVER), (2,)), capacity=2, program=program))

    def test_results_are_new(self):
        final_states(Schedules.RELAY, 1).clear()
        self.assertEqual([((OVER, OVER), (0,))], final_states(Schedules.RELAY, 1))
        schedule_to(Schedules.RELAY, 1, ((at(1), NEW), (0,))).clear()
        self.assertEqual([A], schedule_to(Schedules.RELAY, 1, ((at(1), NEW), (0,))))


if __name__ == "__main__":
    unittest.main()
