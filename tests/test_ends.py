"""Ends: [17] and [20]."""

import random
import unittest

from drawn import drawn_calm, drawn_copies, drawn_program
from fdwires.ends import holders, openings_of, pipes_of, readers_of, same_opening, table_at, writers_of
from fdwires.errors import InvalidIndex, InvalidNumber, InvalidProcess, InvalidProgram
from machine import all_bodies, all_pipes, all_tables, all_uses
from support import NO_DESCRIPTORS, NO_LISTS, NO_PROCESSES, TupleKind, Unfriendly, assert_error

IN, OUT, ERR = ("file", (), -3, "in"), ("file", (), -2, "out"), ("file", (), -1, "err")

# Values that are no index of a process with three steps.
NO_INDEXES = (-1, 4, 60, 10 ** 30, -(10 ** 30), True, False, None, "0", 0.0, (), [], (0,), Unfriendly())


def reading(process, j):
    return ("pipe", process, j, "r")


def writing(process, j):
    return ("pipe", process, j, "w")


TREE = [
    ("pipe", 3, 4),
    ("open", 5, "f"),
    ("fork", [("close", 3), ("pipe", 3, 0), ("fork", [("open", 9, "g"), ("copy", 4, 9)]), ("close", 5)]),
    ("copy", 4, 3),
    ("open", 5, "f"),
    ("fork", []),
    ("pipe", 6, 3),
    ("close", 0),
    ("fork", [("fork", [("open", 1, "out"), ("pipe", 1, 2)]), ("open", 8, "h"), ("open", 8, "in")]),
]


class Tables(unittest.TestCase):

    def test_each_table_of_a_tree(self):
        free = [None] * 10
        first = [IN, OUT, ERR] + free[3:]
        piped = [IN, OUT, ERR, reading((), 0), writing((), 0)] + free[5:]
        opened = piped[:5] + [("file", (), 0, "f")] + free[6:]
        copied = opened[:3] + [writing((), 0)] + opened[4:]
        again = copied[:5] + [("file", (), 1, "f")] + free[6:]
        second = again[:3] + [writing((), 1), writing((), 0), ("file", (), 1, "f"), reading((), 1)] + free[7:]
        closed = [None] + second[1:]
        self.assert_tables((), [first, piped, opened, opened, copied, again, again, second, closed, closed])
        without = opened[:3] + [None] + opened[4:]
        own = [writing((0,), 0), OUT, ERR, reading((0,), 0)] + opened[4:]
        self.assert_tables((0,), [opened, without, own, own, own[:5] + [None] * 5])
        self.assert_tables((0, 0), [own, own[:9] + [("file", (0, 0), 0, "g")], own[:9] + [writing((), 0)]])
        self.assert_tables((1,), [again])
        eighth = closed[:8] + [("file", (2,), 0, "h"), None]
        self.assert_tables((2,), [closed, closed, eighth, closed[:8] + [("file", (2,), 1, "in"), None]])
        out = closed[:1] + [("file", (2, 0), 0, "out")] + closed[2:]
        self.assert_tables((2, 0), [closed, out, closed[:1] + [reading((2, 0), 0), writing((2, 0), 0)] + closed[3:]])

    def assert_tables(self, process, tables):
        self.assertEqual(len(tables), len(all_bodies(TREE)[process]) + 1)
        for index, table in enumerate(tables):
            self.assertEqual(table, table_at(TREE, process, index), (process, index))

    def test_the_empty_program(self):
        self.assertEqual([IN, OUT, ERR] + [None] * 7, table_at([], (), 0))
        self.assertEqual([IN, OUT, ERR] + [None] * 7, table_at(program=[], process=(), index=0))
        self.assertEqual([], pipes_of([]))
        self.assertEqual([], openings_of([]))
        for number, end in enumerate((IN, OUT, ERR)):
            self.assertEqual([((), number, 0, 0)], holders([], end))

    def test_other_steps_leave_the_table(self):
        program = [("pipe", 3, 4), ("write", 4, 1), ("read", 3, 1), ("pass", 3, 4, None), ("wait",), ("fork", [("close", 3)])]
        for index in range(2, 7):
            self.assertEqual(table_at(program, (), 1), table_at(program, (), index))

    def test_copies(self):
        program = [("copy", 0, 0), ("copy", 0, 1), ("copy", 1, 9), ("close", 0), ("copy", 9, 0), ("close", 9)]
        self.assertEqual([IN, OUT, ERR] + [None] * 7, table_at(program, (), 1))
        self.assertEqual([IN, IN, ERR] + [None] * 7, table_at(program, (), 2))
        self.assertEqual([IN, IN, ERR] + [None] * 6 + [IN], table_at(program, (), 3))
        self.assertEqual([None, IN, ERR] + [None] * 6 + [IN], table_at(program, (), 4))
        self.assertEqual([IN, IN, ERR] + [None] * 7, table_at(program, (), 6))

    def test_drawn_programs(self):
        chance = random.Random(51)
        for _ in range(150):
            program = drawn_program(chance, 3, 8)
            for process, tables in all_tables(program).items():
                for index, table in enumerate(tables):
                    self.assertEqual(table, table_at(program, process, index))

    def test_wrong_arguments(self):
        program = [("wait",), ("fork", [("wait",), ("wait",), ("wait",)]), ("wait",)]
        for process in NO_PROCESSES:
            assert_error(self, InvalidProcess, {}, table_at, program, process, 0)
            assert_error(self, InvalidProcess, {}, table_at, program, process, None)
        for index in NO_INDEXES:
            assert_error(self, InvalidIndex, {}, table_at, program, (), index)
            assert_error(self, InvalidIndex, {}, table_at, program, (0,), index)
        assert_error(self, InvalidIndex, {}, table_at, [], (), 1)
        assert_error(self, InvalidProgram, {"process": (), "index": 0}, table_at, ["wait"], None, None)

    def test_tables_are_new(self):
        table_at(TREE, (), 3).clear()
        self.assertEqual(10, len(table_at(TREE, (), 3)))
        self.assertEqual(table_at(TREE, (), 3), table_at(TREE, (0,), 0))


class PipesAndOpenings(unittest.TestCase):

    def test_a_tree(self):
        self.assertEqual([((), 0), ((), 1), ((0,), 0), ((2, 0), 0)], pipes_of(TREE))
        self.assertEqual([("file", (), 0, "f"), ("file", (), 1, "f"), ("file", (0, 0), 0, "g"), ("file", (2,), 0, "h"),
                          ("file", (2,), 1, "in"), ("file", (2, 0), 0, "out")], openings_of(TREE))

    def test_the_first_three_openings_are_no_steps(self):
        program = [("open", 0, "in"), ("open", 1, "out"), ("open", 2, "err"), ("fork", [("open", 0, "in")])]
        self.assertEqual([("file", (), 0, "in"), ("file", (), 1, "out"), ("file", (), 2, "err"), ("file", (0,), 0, "in")],
                         openings_of(program))
        self.assertEqual([], pipes_of(program))

    def test_pipes_that_are_never_used_or_closed_at_once(self):
        program = [("pipe", 3, 4), ("close", 3), ("close", 4), ("pipe", 3, 4), ("pipe", 3, 4), ("open", 3, "f"), ("open", 3, "f")]
        self.assertEqual([((), 0), ((), 1), ((), 2)], pipes_of(program))
        self.assertEqual([("file", (), 0, "f"), ("file", (), 1, "f")], openings_of(program))
        for j in range(3):
            self.assertEqual([], writers_of(program, (), j))
            self.assertEqual([], readers_of(program, (), j))

    def test_many_pipes_are_in_the_order_of_their_numbers(self):
        program = [("pipe", 3, 4)] * 12 + [("open", 3, "b"), ("open", 3, "a")] * 6
        self.assertEqual([((), j) for j in range(12)], pipes_of(program))
        self.assertEqual([("file", (), j, "ba"[j % 2]) for j in range(12)], openings_of(program))

    def test_drawn_programs(self):
        chance = random.Random(52)
        for _ in range(200):
            program = drawn_program(chance, 3, 8)
            self.assertEqual(all_pipes(program), pipes_of(program=program))
            ends = {end for tables in all_tables(program).values() for table in tables for end in table if end}
            openings = sorted(end for end in ends if end[0] == "file" and end[2] >= 0)
            self.assertEqual(openings, openings_of(program=program))

    def test_results_are_new(self):
        pipes_of(TREE).clear()
        openings_of(TREE).clear()
        self.assertEqual(4, len(pipes_of(TREE)))
        self.assertEqual(6, len(openings_of(TREE)))

    def test_no_programs(self):
        for value in NO_LISTS:
            for function in (pipes_of, openings_of):
                assert_error(self, InvalidProgram, {"process": None, "index": None}, function, value)
            assert_error(self, InvalidProgram, {"process": None, "index": None}, holders, value, IN)
        assert_error(self, InvalidProgram, {"process": (0,), "index": 0}, pipes_of, [("fork", [("close", 9)])])
        assert_error(self, InvalidProgram, {"process": (0,), "index": 0}, openings_of, [("fork", [("close", 9)])])


class Holders(unittest.TestCase):

    def test_several_stretches_of_one_number(self):
        program = [("pipe", 3, 4), ("copy", 4, 5), ("close", 4), ("wait",), ("copy", 5, 4), ("close", 5), ("wait",),
                   ("open", 4, "f")]
        self.assertEqual([((), 4, 1, 2), ((), 4, 5, 7), ((), 5, 2, 5)], holders(program, writing((), 0)))
        self.assertEqual([((), 3, 1, 8)], holders(program, reading((), 0)))
        self.assertEqual([((), 4, 8, 8)], holders(program, ("file", (), 0, "f")))
        self.assertEqual([((), 0, 0, 8)], holders(program, IN))

    def test_copies_of_the_same_end_do_not_part_a_stretch(self):
        program = [("copy", 1, 5), ("copy", 1, 5), ("copy", 5, 1), ("copy", 5, 5), ("close", 1), ("copy", 5, 1)]
        self.assertEqual([((), 1, 0, 4), ((), 1, 6, 6), ((), 5, 1, 6)], holders(program, OUT))

    def test_a_new_end_parts_a_stretch(self):
        program = [("open", 5, "f"), ("open", 5, "f"), ("pipe", 5, 6), ("pipe", 6, 5)]
        self.assertEqual([((), 5, 1, 1)], holders(program, ("file", (), 0, "f")))
        self.assertEqual([((), 5, 2, 2)], holders(program, ("file", (), 1, "f")))
        self.assertEqual([((), 5, 3, 3)], holders(program, reading((), 0)))
        self.assertEqual([((), 6, 3, 3)], holders(program, writing((), 0)))
        self.assertEqual([((), 6, 4, 4)], holders(program, reading((), 1)))

    def test_children(self):
        program = [("pipe", 3, 4), ("fork", [("fork", []), ("close", 4), ("fork", [("wait",)])]), ("close", 4), ("fork", []),
                   ("fork", [("copy", 3, 8), ("close", 3)])]
        self.assertEqual([((), 4, 1, 2), ((0,), 4, 0, 1), ((0, 0), 4, 0, 0)], holders(program, writing((), 0)))
        self.assertEqual([((), 3, 1, 5), ((0,), 3, 0, 3), ((0, 0), 3, 0, 0), ((0, 1), 3, 0, 1), ((1,), 3, 0, 0),
                          ((2,), 3, 0, 1), ((2,), 8, 1, 2)], holders(program, reading((), 0)))
        self.assertEqual([((), 2, 0, 5), ((0,), 2, 0, 3), ((0, 0), 2, 0, 0), ((0, 1), 2, 0, 1), ((1,), 2, 0, 0),
                          ((2,), 2, 0, 2)], holders(program=program, end=ERR))

    def test_an_end_that_a_child_makes(self):
        program = [("fork", [("pipe", 3, 4), ("fork", [("close", 3)]), ("close", 4)]), ("fork", [("pipe", 3, 4)])]
        self.assertEqual([((0,), 3, 1, 3), ((0, 0), 3, 0, 0)], holders(program, reading((0,), 0)))
        self.assertEqual([((1,), 3, 1, 1)], holders(program, reading((1,), 0)))

    def test_values_that_are_no_ends(self):
        program = [("pipe", 3, 4), ("pipe", 5, 6), ("open", 7, "f"), ("fork", [("pipe", 3, 4), ("open", 8, "g")])]
        values = (None, True, 0, 3, "", "in", (), [], {}, b"", Unfriendly(), (None,), [None] * 10,
                  ("pipe",), ("pipe", ()), ("pipe", (), 0), ("pipe", (), 0, "r", "r"), ["pipe", (), 0, "r"],
                  ("pipe", (), 2, "r"), ("pipe", (), -1, "r"), ("pipe", (), 0, "x"), ("pipe", (), 0, ""), ("pipe", (), 0, None),
                  ("pipe", (), False, "r"), ("pipe", (), True, "r"), ("pipe", (), 0.0, "r"), ("pipe", (), "0", "r"),
                  ("pipe", (), None, "r"), ("pipe", (False,), 0, "r"), ("pipe", (0.0,), 0, "r"), ("pipe", [0], 0, "r"),
                  ("pipe", (0,), 1, "r"), ("pipe", (1,), 0, "r"), ("pipe", None, 0, "r"), ("pipe", [], 0, "r"),
                  ("Pipe", (), 0, "r"), ("file", (), 0, "r"), ("pipe", (), 0, "f"), ("pipe", (), 0), (("pipe", (), 0, "r"),),
                  TupleKind(("pipe", (), 0, "r")), ("pipe", TupleKind((0,)), 0, "r"), ("pipe", Unfriendly(), 0, "r"),
                  ("pipe", (), Unfriendly(), "r"), ("pipe", (), 0, Unfriendly()), (Unfriendly(), (), 0, "r"),
                  ("pipe", (Unfriendly(),), 0, "r"), ("file", (), 0, "g"), ("file", (), 1, "f"), ("file", (0,), 0, "f"),
                  ("file", (), -3, "out"), ("file", (), -4, "in"), ("file", (), -1, "in"), ("file", (0,), -3, "in"),
                  ("file", (), -3), ("file", (), -3, "in", None), ["file", (), -3, "in"], ("file", (), -3.0, "in"),
                  ("file", (), -3, b"in"), ("file", (0,), False, "g"), ("new", 0), (("file", (), -3, "in"), 0))
        for value in values:
            self.assertEqual([], holders(program, value), repr(value.__class__))
        self.assertEqual([], holders([("open", 3, "f"), ("open", 3, "g")], ("file", (), True, "g")))

    def test_drawn_programs(self):
        chance = random.Random(53)
        several = 0
        for turn in range(150):
            program = drawn_copies(chance, 12) if turn % 2 else drawn_calm(chance)
            tables = all_tables(program)
            for end in {end for rows in tables.values() for table in rows for end in table if end}:
                expected = second_holders(tables, end)
                self.assertEqual(expected, holders(program, end))
                several += len(expected) > len({row[:2] for row in expected})
        self.assertGreater(several, 20)

    def test_results_are_new(self):
        holders(TREE, IN).clear()
        self.assertEqual([((), 0, 0, 7), ((0,), 0, 0, 1), ((1,), 0, 0, 0)], holders(TREE, IN))


def second_holders(tables, end):
    """The holders of an end, told from the places at which a number begins or ceases to stand for it."""
    found = []
    for process, rows in tables.items():
        for number in range(10):
            stands = [index for index, table in enumerate(rows) if table[number] == end]
            firsts = [index for index in stands if index - 1 not in stands]
            lasts = [index for index in stands if index + 1 not in stands]
            found += [(process, number, first, last) for first, last in zip(firsts, lasts)]
    return sorted(found)


class WritersAndReaders(unittest.TestCase):

    def test_writes_reads_and_passes(self):
        program = [("pipe", 3, 4), ("pipe", 5, 6), ("pipe", 7, 8), ("fork", [("pass", 3, 6, 1), ("write", 4, 1)]),
                   ("fork", [("read", 5, None), ("pass", 0, 8, None), ("fork", [("pass", 7, 1, 1)])]), ("write", 4, 2)]
        self.assertEqual([(), (0,)], writers_of(program, (), 0))
        self.assertEqual([(0,)], readers_of(program, (), 0))
        self.assertEqual([(0,)], writers_of(program, (), 1))
        self.assertEqual([(1,)], readers_of(program, (), 1))
        self.assertEqual([(1,)], writers_of(program, (), 2))
        self.assertEqual([(1, 0)], readers_of(program, (), 2))

    def test_one_process_at_both_ends(self):
        program = [("pipe", 3, 4), ("pass", 3, 4, None), ("pass", 3, 4, None)]
        self.assertEqual([()], writers_of(program, (), 0))
        self.assertEqual([()], readers_of(program=program, process=(), j=0))

    def test_steps_behind_a_hang_count(self):
        program = [("pipe", 3, 4), ("pipe", 5, 6), ("read", 3, 1), ("write", 6, 1), ("read", 5, 1)]
        self.assertEqual([()], writers_of(program=program, process=(), j=1))
        self.assertEqual([()], readers_of(program, (), 1))

    def test_copied_numbers_and_numbers_that_stand_for_something_else(self):
        program = [("pipe", 3, 4), ("copy", 4, 1), ("pipe", 3, 4), ("fork", [("write", 1, 1), ("read", 3, 1)]), ("write", 4, 1),
                   ("open", 1, "f"), ("write", 1, 1), ("copy", 3, 0), ("fork", [("read", 0, 1)]), ("open", 3, "f"), ("read", 3, 1)]
        self.assertEqual([(0,)], writers_of(program, (), 0))
        self.assertEqual([], readers_of(program, (), 0))
        self.assertEqual([()], writers_of(program, (), 1))
        self.assertEqual([(0,), (1,)], readers_of(program, (), 1))

    def test_files_have_neither(self):
        program = [("pipe", 3, 4), ("write", 1, 1), ("read", 0, 1), ("pass", 0, 1, 1)]
        self.assertEqual([], writers_of(program, (), 0))
        self.assertEqual([], readers_of(program, (), 0))

    def test_pipes_of_children(self):
        program = [("fork", [("pipe", 3, 4), ("pipe", 5, 6), ("fork", [("write", 6, 1)]), ("read", 5, None)]), ("pipe", 3, 4)]
        self.assertEqual([(0, 0)], writers_of(program, (0,), 1))
        self.assertEqual([(0,)], readers_of(program, (0,), 1))
        self.assertEqual([], writers_of(program, (0,), 0))

    def test_drawn_programs(self):
        chance = random.Random(54)
        for _ in range(150):
            program = drawn_program(chance, 3, 8)
            uses = all_uses(program)
            for process, j in all_pipes(program):
                for function, word, side in ((writers_of, "writes", "w"), (readers_of, "reads", "r")):
                    expected = sorted({use[0] for use in uses if use[2:4] == (word, ("pipe", process, j, side))})
                    self.assertEqual(expected, function(program, process, j))

    def test_wrong_arguments(self):
        program = [("pipe", 3, 4), ("pipe", 5, 6), ("fork", [("wait",), ("pipe", 3, 4), ("wait",)])]
        for function in (writers_of, readers_of):
            for process in NO_PROCESSES:
                assert_error(self, InvalidProcess, {}, function, program, process, 0)
                assert_error(self, InvalidProcess, {}, function, program, process, 9)
            for j in (-1, 2, 3, 10 ** 30, True, False, None, "0", 0.0, (), [], (0,), Unfriendly()):
                assert_error(self, InvalidIndex, {}, function, program, (), j)
            assert_error(self, InvalidIndex, {}, function, program, (0,), 1)
            assert_error(self, InvalidIndex, {}, function, [], (), 0)
            assert_error(self, InvalidProgram, {"process": None, "index": None}, function, (), None, None)
            assert_error(self, InvalidProgram, {"process": (), "index": 1}, function, [("wait",), ()], (), 0)

    def test_results_are_new(self):
        program = [("pipe", 3, 4), ("write", 4, 1), ("read", 3, 1)]
        writers_of(program, (), 0).clear()
        readers_of(program, (), 0).clear()
        self.assertEqual([[()], [()]], [writers_of(program, (), 0), readers_of(program, (), 0)])


class SameOpening(unittest.TestCase):

    PROGRAM = [("open", 3, "f"), ("open", 4, "f"), ("pipe", 5, 6), ("fork", [("copy", 3, 1), ("close", 3), ("open", 3, "f")]),
               ("copy", 4, 3), ("close", 4), ("copy", 6, 7)]

    def assert_same(self, expected, first, second):
        self.assertIs(expected, same_opening(self.PROGRAM, *first, *second), (first, second))
        self.assertIs(expected, same_opening(self.PROGRAM, *second, *first), (second, first))

    def test_numbers_of_different_processes(self):
        self.assert_same(True, ((), 1, 3), ((), 1, 3))
        self.assert_same(True, ((), 1, 3), ((0,), 0, 3))
        self.assert_same(True, ((), 1, 3), ((0,), 3, 1))
        self.assert_same(False, ((), 1, 3), ((0,), 3, 3))
        self.assert_same(False, ((), 2, 3), ((), 2, 4))
        self.assert_same(True, ((), 2, 4), ((), 5, 3))
        self.assert_same(True, ((), 7, 3), ((0,), 2, 4))
        self.assert_same(False, ((), 7, 3), ((0,), 2, 3))
        self.assert_same(True, ((), 0, 1), ((0,), 0, 1))
        self.assert_same(False, ((), 0, 1), ((0,), 1, 1))
        self.assert_same(False, ((), 0, 0), ((), 0, 1))
        self.assert_same(True, ((), 0, 2), ((0,), 3, 2))

    def test_free_numbers_and_ends_of_pipes(self):
        for number in (5, 6, 7, 9):
            self.assert_same(False, ((), 7, number), ((), 7, number))
            self.assert_same(False, ((), 3, number), ((0,), 0, number))
        self.assert_same(False, ((), 7, 6), ((), 7, 7))
        self.assert_same(False, ((), 6, 4), ((), 6, 4))
        self.assert_same(False, ((), 0, 9), ((), 0, 0))

    def test_by_name(self):
        self.assertIs(True, same_opening(other_number=1, other_index=3, other=(0,), number=3, index=1, process=(),
                                         program=self.PROGRAM))

    def test_drawn_programs(self):
        chance = random.Random(55)
        seen = {True: 0, False: 0}
        for _ in range(100):
            program = drawn_program(chance, 3, 6)
            tables = all_tables(program)
            places = [(process, index, number) for process, rows in tables.items() for index in range(len(rows))
                      for number in range(10)]
            for first, second in zip(chance.sample(places, 20), chance.sample(places, 20)):
                ends = [tables[process][index][number] for process, index, number in (first, second)]
                expected = ends[0] is not None and ends[0][0] == "file" and ends[0] == ends[1]
                self.assertIs(expected, same_opening(program, *first, *second))
                seen[expected] += 1
        self.assertGreater(seen[True], 20)

    def test_each_wrong_argument(self):
        program = [("wait",), ("fork", [("wait",), ("wait",), ("wait",)]), ("wait",)]
        wrong = [(InvalidProcess, NO_PROCESSES), (InvalidIndex, NO_INDEXES), (InvalidNumber, NO_DESCRIPTORS + (Unfriendly(),))]
        for place in range(6):
            error, values = wrong[place % 3]
            for value in values:
                arguments = [(), 0, 0, (0,), 3, 9]
                arguments[place] = value
                assert_error(self, error, {}, same_opening, program, *arguments)
                # Whatever stands behind the first wrong argument does not matter.
                assert_error(self, error, {}, same_opening, program, *arguments[:place + 1], *[None] * (5 - place))
        assert_error(self, InvalidProgram, {"process": None, "index": None}, same_opening, None, *[None] * 6)


if __name__ == "__main__":
    unittest.main()
