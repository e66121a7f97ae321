"""Cures: [27], [28] and [29]."""

import copy
import itertools
import random
import unittest

from drawn import drawn_calm, drawn_copies, drawn_program, drawn_ring, without
from fdwires.calm import is_calm, last_state
from fdwires.cures import can_cure, dead_places, fewest_closes, is_cure, needed_places, tidy, with_closes
from fdwires.errors import Endless, InvalidCapacity, InvalidCloses, InvalidProgram, NotCalm, NotCurable, TooLarge
from fdwires.programs import first_wrong, is_program
from machine import all_bodies, all_tables, drawn_run, second_fault, waits_in
from support import NO_CAPACITIES, NO_LISTS, NO_PROCESSES, ListKind, TupleKind, Unfriendly, assert_error

A, B, C = (), (0,), (1,)
BIG = 10 ** 30
FUNCTIONS = (can_cure, needed_places, fewest_closes)

OWN = [("pipe", 3, 4), ("write", 4, 2), ("read", 3, None)]
PAIR = [("pipe", 3, 4), ("fork", [("read", 3, None)]), ("write", 4, 5), ("wait",)]
FINE = [("pipe", 3, 4), ("fork", [("close", 4), ("read", 3, None)]), ("close", 3), ("write", 4, 5), ("close", 4), ("wait",)]
ENDLESS = [("pipe", 3, 4), ("write", 4, 2), ("pass", 3, 4, None)]
NOT_CALM = [("pipe", 3, 4), ("fork", [("write", 4, 1)]), ("wait",)]
# With the close ahead of the read the run goes on to a ring of passes.
LATE = [("pipe", 3, 4), ("read", 3, None)] + [("pipe", 5, 6), ("write", 6, 1), ("pass", 5, 6, None)]
# The main process waits for a child that waits for what the main process would write then.
HOPELESS = [("pipe", 3, 4), ("fork", [("close", 4), ("read", 3, None)]), ("close", 3), ("wait",), ("write", 4, 1)]


def is_used(bodies, name, index, number):
    """Whether a process, or one that it forks from a step on, uses a number before it gets an end."""
    child = [step[0] for step in bodies[name][:index]].count("fork")
    for word, *rest in bodies[name][index:]:
        if word == "fork":
            if is_used(bodies, name + (child,), 0, number):
                return True
            child += 1
        elif (word in ("copy", "write") and rest[0] == number) or (word == "pass" and rest[1] == number):
            return True
        elif gives((word, *rest), number):
            return False
    return False


def gives(step, number):
    word, *rest = step
    return (word == "pipe" and number in rest) or (word == "open" and rest[0] == number) or (word == "copy" and rest[1] == number)


def second_places(program):
    """All places of a program, each one looked at on its own."""
    bodies, tables = all_bodies(program), all_tables(program)

    def is_dead(name, index, number):
        end = tables[name][index][number]
        return end is not None and end[0] == "pipe" and end[-1] == "w" and not is_used(bodies, name, index, number)

    found = []
    for name, body in bodies.items():
        for index, number in itertools.product(range(len(body)), range(10)):
            if index > 0:
                step = body[index - 1]
                known = is_dead(name, index - 1, number) and (step == ("copy", number, number) or not gives(step, number))
            elif name != ():
                forks = [at for at, step in enumerate(bodies[name[:-1]]) if step[0] == "fork"]
                known = is_dead(name[:-1], forks[name[-1]], number)
            else:
                known = False
            if is_dead(name, index, number) and not known:
                found.append((name, index, number))
    return found


def second_closes(program, closes):
    """The program with closes: all are put in, then each step that closes a free number is left out."""
    program = with_steps(program, closes)
    while first_wrong(program) is not None:
        name, index = first_wrong(program)
        assert all_bodies(program)[name][index][0] == "close"
        program = without(program, (name, index))
    return program


def with_steps(body, closes, name=()):
    found = []
    forks = 0
    for index, step in enumerate(body):
        found += [("close", number) for process, at, number in closes if (process, at) == (name, index)]
        if step[0] == "fork":
            step = ("fork", with_steps(step[1], closes, name + (forks,)))
            forks += 1
        found.append(step)
    return found


def all_sets(places):
    """All lists of some of the places, the smallest ones first, and among those of one size the least one first."""
    return [list(closes) for many in range(len(places) + 1) for closes in itertools.combinations(places, many)]


def chain(*steps):
    """A program with a pipe at 3 and 4, and these steps behind it."""
    return [("pipe", 3, 4)] + list(steps)


# Programs with all their places.
PLACES = [
    ([], []),
    ([("write", 1, 1), ("wait",)], []),
    (chain(), []),
    (chain(("wait",)), [(A, 1, 4)]),
    (chain(("close", 4)), [(A, 1, 4)]),
    (chain(("close", 3), ("close", 4), ("wait",)), [(A, 1, 4)]),
    # Behind all steps there is no step, and so no place.
    (chain(("write", 4, 1)), []),
    (chain(("fork", []), ("write", 4, 1)), []),
    (chain(("write", 4, 1), ("fork", [])), [(A, 2, 4)]),
    (chain(("write", 4, 1), ("close", 4)), [(A, 2, 4)]),
    (OWN, [(A, 2, 4)]),
    (PAIR, [(A, 3, 4), (B, 0, 4)]),
    (FINE, [(A, 4, 4), (B, 0, 4)]),
    # What is copied, written or passed to is used; what is read, or closed, is not.
    (chain(("copy", 4, 5), ("wait",)), [(A, 2, 4), (A, 2, 5)]),
    (chain(("write", 4, 1), ("wait",)), [(A, 2, 4)]),
    (chain(("pass", 0, 4, 1), ("wait",)), [(A, 2, 4)]),
    (chain(("pass", 3, 1, 1), ("wait",)), [(A, 1, 4)]),
    (chain(("read", 3, 1), ("wait",)), [(A, 1, 4)]),
    # A copy of a number to itself is a use, and gives no end.
    (chain(("copy", 4, 4), ("wait",)), [(A, 2, 4)]),
    (chain(("wait",), ("copy", 4, 4), ("wait",), ("copy", 4, 4), ("wait",)), [(A, 5, 4)]),
    # Whatever gives the number an end ends its use: a copy onto it, also of the same end, a pipe, an opening.
    (chain(("copy", 1, 4), ("write", 4, 1)), [(A, 1, 4)]),
    (chain(("copy", 3, 4), ("read", 4, 1)), [(A, 1, 4)]),
    (chain(("copy", 4, 5), ("wait",), ("copy", 4, 5), ("write", 5, 1)), [(A, 2, 5), (A, 4, 4)]),
    (chain(("copy", 4, 5), ("wait",), ("copy", 4, 5), ("wait",)), [(A, 2, 5), (A, 4, 4), (A, 4, 5)]),
    (chain(("copy", 4, 5), ("wait",), ("copy", 5, 4), ("write", 4, 1)), [(A, 2, 4), (A, 4, 5)]),
    (chain(("open", 4, "f"), ("write", 4, 1)), [(A, 1, 4)]),
    (chain(("pipe", 3, 4), ("write", 4, 1), ("wait",)), [(A, 1, 4), (A, 3, 4)]),
    (chain(("pipe", 4, 5), ("read", 4, 1), ("write", 5, 1)), [(A, 1, 4)]),
    (chain(("pipe", 5, 4), ("wait",), ("pipe", 5, 4), ("wait",)), [(A, 1, 4), (A, 2, 4), (A, 4, 4)]),
    # Only writing ends of pipes are dead.
    ([("open", 4, "f"), ("wait",), ("pipe", 4, 5), ("write", 5, 1), ("wait",)], [(A, 4, 5)]),
    ([("pipe", 4, 3), ("wait",)], [(A, 1, 3)]),
    ([("open", 4, "w"), ("open", 5, "pipe"), ("open", 6, "r"), ("wait",)], []),
    # A number gets an end several times.
    (chain(("write", 4, 1), ("open", 4, "f"), ("wait",), ("pipe", 3, 4), ("wait",)), [(A, 2, 4), (A, 5, 4)]),
    (chain(("close", 4), ("wait",), ("pipe", 3, 4), ("write", 4, 1), ("close", 4)), [(A, 1, 4), (A, 5, 4)]),
    # Processes that are forked from there on.
    (chain(("wait",), ("fork", [("write", 4, 1)]), ("wait",)), [(A, 3, 4)]),
    (chain(("fork", [("write", 4, 1), ("wait",)]), ("write", 4, 1), ("fork", [("wait",)])), [(A, 3, 4), (B, 1, 4)]),
    (chain(("fork", [("wait",)]), ("write", 4, 1), ("wait",)), [(A, 3, 4), (B, 0, 4)]),
    (chain(("fork", [("wait",)]), ("fork", [("write", 4, 1)]), ("wait",)), [(A, 3, 4), (B, 0, 4)]),
    (chain(("fork", [("copy", 4, 4), ("wait",)]), ("wait",)), [(A, 2, 4), (B, 1, 4)]),
    (chain(("fork", [("open", 4, "f"), ("write", 4, 1)]), ("wait",)), [(A, 1, 4)]),
    (chain(("fork", [("fork", [("write", 4, 1), ("wait",)]), ("wait",)]), ("wait",)), [(A, 2, 4), (B, 1, 4), ((0, 0), 1, 4)]),
    (chain(("fork", [("fork", [("wait",)]), ("wait",)]), ("wait",)), [(A, 1, 4)]),
    (chain(("fork", [("fork", [("wait",)]), ("wait",)]), ("write", 4, 1)), [(B, 0, 4)]),
    (chain(("fork", [("fork", [("wait",)]), ("write", 4, 1)])), [((0, 0), 0, 4)]),
    (chain(("fork", [("open", 4, "f"), ("fork", [("write", 4, 1)])]), ("wait",)), [(A, 1, 4)]),
    # A number that is dead ahead of the fork, and one that the child gives an end.
    (chain(("fork", [("pipe", 3, 4), ("wait",)]), ("wait",)), [(A, 1, 4), (B, 1, 4)]),
    (chain(("copy", 4, 9), ("copy", 4, 5), ("fork", [("write", 5, 1), ("write", 9, 1), ("wait",)]), ("write", 9, 1), ("wait",)),
     [(A, 3, 4), (A, 4, 5), (A, 5, 9), (B, 1, 5), (B, 2, 9)]),
]


# Each of the two waits for the end of what the other one could still write.
EITHER = [("pipe", 3, 4), ("pipe", 5, 6), ("fork", [("close", 6), ("write", 4, 1), ("read", 5, None)]), ("close", 4), ("write", 6, 1),
          ("read", 3, None)]


class Cures(unittest.TestCase):

    def drawn_programs(self, chance, many):
        """Drawn programs of all kinds, with few steps."""
        for turn in range(many):
            kind = turn % 4
            if kind == 0:
                yield drawn_program(chance, 3, 8)
            elif kind == 1:
                yield drawn_copies(chance, 12)
            elif kind == 2:
                yield drawn_ring(chance, 3)
            else:
                yield self.careless(chance)

    def careless(self, chance):
        """A drawn calm program that leaves out some of its closes."""
        program = drawn_calm(chance, 4)
        for _ in range(chance.randrange(4)):
            closes = [(name, index) for name, body in all_bodies(program).items() for index, step in enumerate(body)
                      if step[0] == "close"]
            if closes:
                program = without(program, chance.choice(closes))
        return program


class Places(Cures):

    def test_known_ones(self):
        for program, places in PLACES:
            self.assertIsNone(first_wrong(program), program)
            self.assertEqual(places, dead_places(program), program)
            self.assertEqual(places, second_places(program), program)

    def test_drawn_programs(self):
        chance = random.Random(101)
        seen = {}
        for program in self.drawn_programs(chance, 1200):
            places = dead_places(program)
            self.assertEqual(second_places(program), places)
            many = min(len(places), 5)
            seen[many] = seen.get(many, 0) + 1
        self.assertGreater(min(seen[many] for many in range(6)), 20, seen)

    def test_programs_that_are_not_calm_have_places(self):
        self.assertEqual([], dead_places(NOT_CALM[:2]))
        self.assertEqual([(A, 2, 4)], dead_places(NOT_CALM))
        self.assertEqual([(A, 2, 4)], dead_places(chain(("write", 4, 1), ("read", 3, 1), ("wait",))))
        self.assertEqual(chain(("write", 4, 1), ("close", 4), ("read", 3, 1)), tidy(chain(("write", 4, 1), ("read", 3, 1))))

    def test_many_places(self):
        program = [("pipe", 3, 4)] * 60
        self.assertEqual([((), index, 4) for index in range(1, 60)], dead_places(program))
        wide = [("pipe", number, number + 1) for number in (0, 2, 4, 6, 8)] + [("fork", [("wait",)])] * 7
        self.assertEqual([((), 1, 1), ((), 2, 3), ((), 3, 5), ((), 4, 7), ((), 5, 9)], dead_places(wide))
        wide.append(("write", 9, 1))
        self.assertEqual([((), 1, 1), ((), 2, 3), ((), 3, 5), ((), 4, 7)] + [((at,), 0, 9) for at in range(7)], dead_places(wide))


class Closes(Cures):

    def test_known_ones(self):
        rows = [
            (OWN, [], OWN),
            (OWN, [(A, 2, 4)], chain(("write", 4, 2), ("close", 4), ("read", 3, None))),
            (PAIR, [(A, 3, 4)], chain(("fork", [("read", 3, None)]), ("write", 4, 5), ("close", 4), ("wait",))),
            (PAIR, [(B, 0, 4)], chain(("fork", [("close", 4), ("read", 3, None)]), ("write", 4, 5), ("wait",))),
            # A later close is left out, here and in children, but not if the number has been given an end.
            (chain(("wait",), ("close", 4)), [(A, 1, 4)], chain(("close", 4), ("wait",))),
            (chain(("close", 4)), [(A, 1, 4)], chain(("close", 4))),
            (chain(("wait",), ("fork", [("close", 4)]), ("close", 4)), [(A, 1, 4)], chain(("close", 4), ("wait",), ("fork", []))),
            (chain(("wait",), ("fork", [("fork", [("wait",), ("close", 4)]), ("close", 4)])), [(A, 1, 4)],
             chain(("close", 4), ("wait",), ("fork", [("fork", [("wait",)])]))),
            (chain(("wait",), ("fork", [("open", 4, "f"), ("close", 4)]), ("pipe", 3, 4), ("close", 4)), [(A, 1, 4)],
             chain(("close", 4), ("wait",), ("fork", [("open", 4, "f"), ("close", 4)]), ("pipe", 3, 4), ("close", 4))),
            (chain(("wait",), ("copy", 3, 4), ("close", 4)), [(A, 1, 4)], chain(("close", 4), ("wait",), ("copy", 3, 4), ("close", 4))),
            (chain(("wait",), ("pipe", 4, 5), ("close", 4), ("write", 5, 1)), [(A, 1, 4)],
             chain(("close", 4), ("wait",), ("pipe", 4, 5), ("close", 4), ("write", 5, 1))),
            # Other numbers are closed as before.
            (chain(("copy", 4, 5), ("write", 4, 1), ("close", 5), ("close", 3), ("close", 4)), [(A, 2, 5)],
             chain(("copy", 4, 5), ("close", 5), ("write", 4, 1), ("close", 3), ("close", 4))),
            # A child that was forked earlier closes its own number.
            (chain(("fork", [("write", 4, 1), ("close", 4)]), ("wait",), ("close", 4)), [(A, 2, 4)],
             chain(("fork", [("write", 4, 1), ("close", 4)]), ("close", 4), ("wait",))),
            # Several at one step.
            (chain(("copy", 4, 9), ("copy", 4, 5), ("wait",)), [(A, 3, 4), (A, 3, 5)],
             chain(("copy", 4, 9), ("copy", 4, 5), ("close", 4), ("close", 5), ("wait",))),
            # One number, closed, given another end, and closed again.
            (chain(("wait",), ("close", 4), ("pipe", 3, 4), ("wait",), ("close", 4)), [(A, 1, 4), (A, 4, 4)],
             chain(("close", 4), ("wait",), ("pipe", 3, 4), ("close", 4), ("wait",))),
        ]
        for program, closes, expected in rows:
            self.assertEqual(expected, with_closes(program, closes), program)
            self.assertEqual(expected, second_closes(program, closes))
            if closes == dead_places(program):
                self.assertEqual(expected, tidy(program))

    def test_drawn_programs(self):
        chance = random.Random(102)
        for program in self.drawn_programs(chance, 500):
            places = dead_places(program)
            for share in (0.3, 0.6, 1):
                closes = [place for place in places if chance.random() < share]
                expected = second_closes(program, closes)
                self.assertEqual(expected, with_closes(program, closes))
                self.assertTrue(is_program(expected))
                if is_calm(program):
                    self.assertTrue(is_calm(expected))
            self.assertEqual(second_closes(program, places), tidy(program))

    def test_a_tidy_program_stays(self):
        chance = random.Random(103)
        for program in self.drawn_programs(chance, 200):
            found = tidy(program)
            self.assertEqual(found, tidy(found))
            for name, index, number in dead_places(found):
                # Some closes of other numbers can stand ahead of it.
                step = next(step for step in all_bodies(found)[name][index:] if step[0] != "close" or step[1] == number)
                self.assertEqual(("close", number), step)
        self.assertEqual(FINE, tidy(FINE))

    def test_a_body_of_sixty_steps_and_more(self):
        waits = [("wait",)] * 58
        fits = chain(*waits)
        self.assertEqual(60, len(tidy(fits)))
        self.assertEqual([("pipe", 3, 4), ("close", 4)] + waits, tidy(fits))
        self.assertEqual(tidy(fits), with_closes(fits, [((), 1, 4)]))
        longer = chain(*waits, ("wait",))
        assert_error(self, TooLarge, {"limit": 60}, tidy, longer)
        assert_error(self, TooLarge, {"limit": 60}, with_closes, longer, [((), 1, 4)])
        self.assertEqual(longer, with_closes(longer, []))
        # A close that is left out makes space.
        closing = chain(*waits, ("close", 4))
        self.assertEqual(60, len(tidy(closing)))
        self.assertEqual(60, len(with_closes(closing, [((), 1, 4)])))
        child = [("fork", longer), ("wait",)]
        assert_error(self, TooLarge, {"limit": 60}, tidy, child)
        assert_error(self, TooLarge, {"limit": 60}, with_closes, child, [((0,), 1, 4)])
        assert_error(self, InvalidCloses, {}, with_closes, longer, [((), 1, 4), ((), 1, 4)])
        assert_error(self, InvalidCloses, {}, with_closes, longer, [((), 1, 3)])

    def test_invalid_closes(self):
        program = PAIR
        places = dead_places(program)
        self.assertEqual(2, len(places))
        for value in NO_LISTS + (ListKind(places), TupleKind(places), tuple(places), Unfriendly()):
            assert_error(self, InvalidCloses, {}, with_closes, program, value)
            self.assertIs(False, is_cure(program, 1, value))
        for value in (places[::-1], places + places[:1], places[:1] * 2, places[1:] * 2, places + [None], [None], [()], [[(), 3, 4]],
                      [((), 3)], [((), 3, 4, 0)], [TupleKind(((), 3, 4))], [([], 3, 4)], [((), 3.0, 4)], [((), 3, 4.0)], [((), 3, 3)],
                      [((), 2, 4)], [((), 4, 4)], [((0,), 1, 4)], [((0,), False, 4)], [((False,), 0, 4)], [((0.0,), 0, 4)],
                      [((1,), 0, 4)], [(TupleKind((0,)), 0, 4)], [((0,), 0, Unfriendly())], [Unfriendly()], [((0,), (), 4)],
                      [((0,), None, 4)], [(None, 0, 4)], [((0,), 0, [])], [(([],), 0, 4)], ["place"], [0], [True]):
            assert_error(self, InvalidCloses, {}, with_closes, program, value)
            self.assertIs(False, is_cure(program, 1, value), value)
        bools = [("pipe", 0, 1), ("wait",)]
        self.assertEqual([((), 1, 1)], dead_places(bools))
        self.assertEqual([("pipe", 0, 1), ("close", 1), ("wait",)], with_closes(bools, [((), 1, 1)]))
        for value in ([((), True, 1)], [((), 1, True)], [((), 1.0, 1)]):
            assert_error(self, InvalidCloses, {}, with_closes, bools, value)
        # Behind all steps there is no place.
        assert_error(self, InvalidCloses, {}, with_closes, OWN[:2], [((), 2, 4)])
        assert_error(self, InvalidCloses, {}, with_closes, chain(("fork", []), ("write", 4, 1)), [((0,), 0, 4)])


class Needed(Cures):

    def test_known_ones(self):
        self.assertEqual(([((), 2, 4)], [((), 2, 4)]), (needed_places(OWN, 2), fewest_closes(OWN, 2)))
        self.assertEqual([((), 3, 4), ((0,), 0, 4)], needed_places(PAIR, 9))
        self.assertEqual([((), 3, 4), ((0,), 0, 4)], fewest_closes(PAIR, 1))
        for capacity in (1, 2, BIG):
            self.assertEqual(([], []), (needed_places(FINE, capacity), fewest_closes(FINE, capacity)))
            self.assertIs(True, can_cure(FINE, capacity))
            self.assertIs(True, is_cure(FINE, capacity, []))
            self.assertIs(True, is_cure(FINE, capacity, dead_places(FINE)))
            self.assertIs(True, is_cure(FINE, capacity, dead_places(FINE)[:1]))
        self.assertIs(True, can_cure(OWN, 2))
        self.assertIs(False, can_cure(OWN, 1))
        self.assertIs(False, is_cure(OWN, 1, [((), 2, 4)]))
        self.assertIs(True, is_cure(OWN, 2, [((), 2, 4)]))
        self.assertIs(False, is_cure(OWN, 2, []))

    def test_a_place_that_is_not_needed_but_one_of_two(self):
        # The number is closed here or there: whoever reads needs one of them only.
        program = chain(("copy", 4, 5), ("wait",), ("copy", 4, 5), ("write", 5, 1), ("wait",), ("read", 3, None))
        self.assertEqual([((), 2, 5), ((), 4, 4), ((), 5, 5)], dead_places(program))
        self.assertEqual([((), 4, 4), ((), 5, 5)], needed_places(program, 1))
        self.assertEqual([((), 4, 4), ((), 5, 5)], fewest_closes(program, 1))
        twice = chain(("pipe", 5, 6), ("fork", [("close", 4), ("copy", 6, 7), ("read", 3, None), ("wait",), ("open", 7, "f"), ("read", 5, None)]),
                      ("close", 6), ("write", 4, 1), ("wait",))
        self.assertEqual([((), 3, 6), ((), 5, 4), ((0,), 0, 4), ((0,), 2, 6), ((0,), 2, 7)], dead_places(twice))
        self.assertEqual([((), 5, 4), ((0,), 2, 6)], needed_places(twice, 1))

    def test_hopeless_programs(self):
        for capacity in (1, BIG):
            self.assertIs(False, can_cure(HOPELESS, capacity))
            assert_error(self, NotCurable, {}, needed_places, HOPELESS, capacity)
            assert_error(self, NotCurable, {}, fewest_closes, HOPELESS, capacity)
            self.assertIs(False, is_cure(HOPELESS, capacity, dead_places(HOPELESS)))
            self.assertIs(False, is_cure(HOPELESS, capacity, []))

    def test_great_amounts(self):
        program = [("pipe", 3, 4), ("fork", [("read", 3, BIG), ("read", 3, None)]), ("write", 4, BIG), ("write", 4, BIG), ("wait",)]
        for capacity in (1, BIG // 3, BIG):
            self.assertEqual([((), 4, 4), ((0,), 0, 4)], needed_places(program, capacity))
            self.assertEqual([((), 4, 4), ((0,), 0, 4)], fewest_closes(program, capacity))

    def test_drawn_programs_against_all_sets_of_closes(self):
        chance = random.Random(104)
        seen = {"fine": 0, "hopeless": 0, "needed": 0, "more": 0}
        for turn in range(900):
            program = drawn_ring(chance, 3) if turn % 6 == 0 else self.careless(chance)
            if second_fault(program) is not None or len(dead_places(program)) > 6:
                continue
            capacity = chance.randint(1, 3)
            cures = self.all_cures(program, capacity, chance)
            if cures is not None:
                seen[self.assert_cures(program, capacity, cures)] += 1
        self.assertGreater(min(seen[word] for word in ("fine", "hopeless", "needed")), 20, seen)

    def all_cures(self, program, capacity, chance):
        """All cures of a program, the smallest ones first; None if the run, or that with all closes, has no end."""
        found = []
        for closes in all_sets(dead_places(program)):
            machine, schedule = drawn_run(second_closes(program, closes), capacity, chance, 400)
            if len(schedule) == 400:
                return None
            if not waits_in(machine):
                found.append(closes)
        return found

    def assert_cures(self, program, capacity, cures):
        """Fails unless all functions tell what follows from all cures of a program; returns a word for its kind."""
        places = dead_places(program)
        self.assertIs(len(cures) > 0, can_cure(program, capacity))
        for closes in all_sets(places):
            self.assertIs(closes in cures, is_cure(program, capacity, closes))
        if not cures:
            assert_error(self, NotCurable, {}, needed_places, program, capacity)
            assert_error(self, NotCurable, {}, fewest_closes, program, capacity)
            return "hopeless"
        needed = [place for place in places if [other for other in places if other != place] not in cures]
        self.assertEqual(needed, needed_places(program, capacity))
        self.assertEqual(cures[0], fewest_closes(program, capacity))
        if cures[0] == []:
            return "fine"
        return "needed" if cures[0] == needed else "more"

    def test_the_least_of_several_smallest_cures(self):
        # Each of two processes waits for the end of what the other one holds: one of two closes is enough.
        either = EITHER
        self.assertEqual([((), 3, 4), ((), 5, 6), ((0,), 0, 6), ((0,), 2, 4)], dead_places(either))
        swapped = either[:2] + [("fork", [("close", 6), ("write", 4, 1), ("read", 5, None)])] + either[3:]
        renamed = [("pipe", 5, 6), ("pipe", 3, 4)] + either[2:]
        chance = random.Random(105)
        for program in (either, swapped, renamed):
            for capacity in (1, 2):
                self.assertEqual([], needed_places(program, capacity))
                cures = self.all_cures(program, capacity, chance)
                self.assertEqual("more", self.assert_cures(program, capacity, cures))
        self.assertEqual([((), 5, 6)], fewest_closes(either, 1))
        self.assertIs(True, is_cure(either, 1, [((0,), 2, 4)]))
        self.assertIs(False, is_cure(either, 1, [((), 3, 4), ((0,), 0, 6)]))

    def test_one_close_or_two_others(self):
        # The main process has two numbers for what the child waits for, and the child has one.
        program = EITHER[:4] + [("copy", 6, 7), ("write", 6, 1), ("write", 7, 1), ("read", 3, None)]
        self.assertEqual([((), 3, 4), ((), 6, 6), ((), 7, 7), ((0,), 0, 6), ((0,), 2, 4)], dead_places(program))
        self.assertEqual(([], [((0,), 2, 4)]), (needed_places(program, 2), fewest_closes(program, 2)))
        for closes, cures in (([((), 6, 6)], False), ([((), 7, 7)], False), ([((), 6, 6), ((), 7, 7)], True), ([((0,), 2, 4)], True)):
            self.assertIs(cures, is_cure(program, 2, closes))
        self.assertEqual("more", self.assert_cures(program, 2, self.all_cures(program, 2, random.Random(108))))
        # Two numbers on both sides: no close alone is enough.
        child = [("close", 6), ("copy", 4, 8), ("write", 4, 1), ("write", 8, 1), ("read", 5, None)]
        program[2] = ("fork", child)
        self.assertEqual([((), 6, 6), ((), 7, 7)], fewest_closes(program, 2))
        self.assertEqual("more", self.assert_cures(program, 2, self.all_cures(program, 2, random.Random(109))))

    def test_two_hangs_that_are_cured_by_one_close_each(self):
        program = [("fork", EITHER), ("fork", EITHER)]
        self.assertEqual([((0,), 5, 6), ((1,), 5, 6)], fewest_closes(program, 1))
        self.assertIs(True, is_cure(program, 1, [((0, 0), 2, 4), ((1,), 5, 6)]))
        self.assertIs(False, is_cure(program, 1, [((0,), 5, 6), ((0, 0), 2, 4)]))

    def test_needed_places_beside_others(self):
        # The child of the two has to close what nobody else can, and then one of two closes is enough.
        program = EITHER[:-1] + [("fork", [("wait",)]), ("read", 3, None), ("pipe", 7, 8), ("read", 7, None)]
        self.assertEqual([((), 8, 8)], [place for place in dead_places(program) if place[2] == 8])
        chance = random.Random(107)
        cures = self.all_cures(program, 1, chance)
        self.assertEqual("more", self.assert_cures(program, 1, cures))
        self.assertEqual([((), 5, 6), ((), 8, 8)], fewest_closes(program, 1))

    def test_closes_never_make_it_worse(self):
        chance = random.Random(106)
        for _ in range(200):
            program = self.careless(chance)
            if second_fault(program) is None:
                machine, schedule = drawn_run(program, 2, chance, 500)
                if len(schedule) < 500 and not waits_in(machine):
                    self.assertEqual((True, [], []), (can_cure(program, 2), needed_places(program, 2), fewest_closes(program, 2)))
                    self.assertEqual({("over",)}, set(last_state(tidy(program), 2)[0]))


class Limits(Cures):

    def test_more_than_eight_other_places(self):
        for many in (0, 1, 3, 4):
            program = [("pipe", 7, 8)] * many + EITHER
            self.assertEqual(4 + many, len(dead_places(program)))
            self.assertEqual([((), 5 + many, 6)], fewest_closes(program, 1))
        for many in (5, 6, 40):
            program = [("pipe", 7, 8)] * many + EITHER
            self.assertEqual([], needed_places(program, 1))
            assert_error(self, TooLarge, {"limit": 8}, fewest_closes, program, 1)
            self.assertIs(True, can_cure(program, 1))
            self.assertIs(True, is_cure(program, 1, dead_places(program)))
            self.assertIs(True, is_cure(program, 1, [((), 5 + many, 6)]))

    def test_needed_places_do_not_count(self):
        # The last read needs its close, and beside it one of two others is enough.
        for many, fine in ((0, True), (3, True), (4, True), (5, False)):
            program = [("pipe", 8, 9)] * many + EITHER + [("pipe", 7, 8), ("read", 7, None)]
            needed = [((), 7 + many, 8)]
            self.assertEqual(needed, needed_places(program, 1))
            self.assertEqual(5 + many, len(dead_places(program)))
            if fine:
                self.assertEqual([((), 5 + many, 6)] + needed, fewest_closes(program, 1))
            else:
                assert_error(self, TooLarge, {"limit": 8}, fewest_closes, program, 1)

    def test_many_other_places_where_the_needed_ones_are_a_cure(self):
        program = [("pipe", 7, 8)] * 40 + OWN
        self.assertEqual([((), 42, 4)], needed_places(program, 2))
        self.assertEqual([((), 42, 4)], fewest_closes(program, 2))
        assert_error(self, NotCurable, {}, fewest_closes, program, 1)
        fine = [("pipe", 7, 8)] * 40 + FINE
        self.assertEqual([], fewest_closes(fine, 1))
        hopeless = [("pipe", 7, 8)] * 40 + HOPELESS
        assert_error(self, NotCurable, {}, fewest_closes, hopeless, 1)

    def test_bodies_of_sixty_steps(self):
        # The runs are not limited by the steps that a body would have.
        program = [("pipe", 7, 8)] * 57 + OWN
        assert_error(self, TooLarge, {"limit": 60}, tidy, program)
        self.assertIs(True, can_cure(program, 2))
        self.assertEqual([((), 59, 4)], fewest_closes(program, 2))
        self.assertIs(True, is_cure(program, 2, dead_places(program)))
        self.assertIs(False, is_cure(program, 2, dead_places(program)[:-1]))

    def test_eight_processes_with_many_places(self):
        child = [("copy", 4, number) for number in (5, 6, 7, 8, 9)] + [("read", 3, None)]
        program = [("pipe", 3, 4)] + [("fork", child)] * 7 + [("wait",)]
        places = [((at,), index, number) for at in range(7) for index, number in ((1, 5), (2, 6), (3, 7), (4, 8), (5, 4), (5, 9))]
        self.assertEqual([((), 8, 4)] + places, dead_places(program))
        self.assertEqual([((), 8, 4)] + places, needed_places(program, BIG))
        self.assertEqual([((), 8, 4)] + places, fewest_closes(program, BIG))


class Arguments(Cures):

    def test_by_name(self):
        self.assertEqual([((), 2, 4)], dead_places(program=OWN))
        self.assertEqual(OWN, with_closes(closes=[], program=OWN))
        self.assertEqual(chain(("write", 4, 2), ("close", 4), ("read", 3, None)), tidy(program=OWN))
        self.assertIs(True, can_cure(capacity=2, program=OWN))
        self.assertIs(True, is_cure(value=[((), 2, 4)], capacity=2, program=OWN))
        self.assertEqual([((), 2, 4)], needed_places(capacity=2, program=OWN))
        self.assertEqual([((), 2, 4)], fewest_closes(capacity=2, program=OWN))

    def test_errors_of_arguments_come_first(self):
        for program in (OWN, NOT_CALM, ENDLESS, HOPELESS):
            for function in FUNCTIONS:
                for value in NO_LISTS:
                    assert_error(self, InvalidProgram, {"process": None, "index": None}, function, value, 0)
                for capacity in NO_CAPACITIES:
                    assert_error(self, InvalidCapacity, {}, function, program, capacity)
            for capacity in NO_CAPACITIES:
                assert_error(self, InvalidCapacity, {}, is_cure, program, capacity, None)
        for value in NO_LISTS:
            for function in (dead_places, tidy):
                assert_error(self, InvalidProgram, {"process": None, "index": None}, function, value)
            assert_error(self, InvalidProgram, {"process": None, "index": None}, with_closes, value, None)
            assert_error(self, InvalidProgram, {"process": None, "index": None}, is_cure, value, 0, None)
        wrong = [("wait",), ("fork", [("close", 3)])]
        for function in FUNCTIONS:
            assert_error(self, InvalidProgram, {"process": (0,), "index": 0}, function, wrong, True)
        for function in (dead_places, tidy):
            assert_error(self, InvalidProgram, {"process": (0,), "index": 0}, function, wrong)
        assert_error(self, InvalidProgram, {"process": (0,), "index": 0}, with_closes, wrong, [((), 0, 4)])

    def test_not_calm_then_endless_then_not_curable(self):
        both = [("pipe", 5, 6), ("write", 6, 1)] + ENDLESS
        for program in (NOT_CALM, both, [("pipe", 5, 6), ("write", 6, 1)] + HOPELESS):
            for function in FUNCTIONS:
                assert_error(self, NotCalm, {"process": (), "j": 0}, function, program, 3)
            for value in ([], None, Unfriendly()):
                assert_error(self, NotCalm, {"process": (), "j": 0}, is_cure, program, 3, value)
        self.assertIs(False, can_cure(ENDLESS, 1))
        # The run has no end, or the run with all closes, which goes on behind the hang.
        later = [("pipe", 3, 4), ("fork", [("close", 4), ("read", 3, None)]), ("wait",)] + ENDLESS
        for program in (ENDLESS, LATE, later):
            for function in FUNCTIONS:
                assert_error(self, Endless, {"processes": ((),)}, function, program, 3)
            for value in ([], dead_places(program), None, Unfriendly()):
                assert_error(self, Endless, {"processes": ((),)}, is_cure, program, 3, value)
        # With this capacity the ring is full.
        for function in FUNCTIONS[1:]:
            assert_error(self, NotCurable, {}, function, LATE, 1)
        self.assertIs(False, is_cure(LATE, 1, dead_places(LATE)))

    def test_endless_of_the_run_comes_first(self):
        # Two rings: with all closes both turn, and what is told is one of them.
        program = [("pipe", 3, 4), ("fork", ENDLESS), ("read", 3, None)] + [("pipe", 5, 6), ("write", 6, 1), ("pass", 5, 6, None)]
        self.assertEqual([((), 1, 4)], dead_places(program))
        for function in FUNCTIONS:
            assert_error(self, Endless, {"processes": ((0,),)}, function, program, 3)

    def test_arguments_stay_and_results_are_new(self):
        program = copy.deepcopy(PAIR)
        closes = dead_places(program)
        for call in (lambda: dead_places(program), lambda: needed_places(program, 1), lambda: fewest_closes(program, 1)):
            first = call()
            first.append("more")
            self.assertEqual(closes, call())
        for call in (lambda: with_closes(program, closes), lambda: with_closes(program, []), lambda: tidy(program)):
            first = call()
            before = copy.deepcopy(first)
            self.assertIs(list, before.__class__)
            next(step for step in first if step[0] == "fork")[1].clear()
            first.clear()
            self.assertEqual(before, call())
        is_cure(program, 1, closes)
        self.assertEqual([((), 3, 4), ((0,), 0, 4)], closes)
        self.assertEqual(PAIR, program)


if __name__ == "__main__":
    unittest.main()
