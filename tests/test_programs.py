"""Programs: [15], [16] and [18]."""

import copy
import random
import unittest

from fdwires.errors import InvalidProcess, InvalidProgram
from fdwires.programs import body_of, first_wrong, fork_place, is_program, processes_of
from support import (NO_DESCRIPTORS, NO_LISTS, NO_NAMES, ListKind, TupleKind, Unfriendly, assert_error)

# Ahead of each form there is a pipe from 4 to 3: 3 can be read, 4 be written, 0 to 2 both, 5 to 9 are free.
START = [("pipe", 3, 4)]
FORMS = [
    ("pipe", 5, 6), ("open", 5, "f"), ("copy", 3, 5), ("close", 3), ("fork", [("close", 4)]), ("fork", []), ("wait",),
    ("write", 4, 1), ("read", 3, 2), ("read", 3, None), ("pass", 3, 1, 3), ("pass", 3, 4, None), ("write", 1, 10 ** 30),
]
NO_UNITS = (0, -1, -(10 ** 30), 10 ** 30 + 1, True, False, 1.0, "1", "all", (), [], (1,), {})


def forks(many):
    """A body with this many forks side by side."""
    return [("fork", []) for _ in range(many)]


def chain(depth, last=()):
    """A body with this many forks, one in another, and these steps in the last of them."""
    body = list(last)
    for _ in range(depth):
        body = [("fork", body)]
    return body


def all_names(depth):
    """The processes of a chain."""
    return [(0,) * length for length in range(depth + 1)]


class Programs(unittest.TestCase):

    def assert_wrong(self, process, index, value):
        """Fails unless all functions tell this first wrong step."""
        fields = {"process": process, "index": index}
        self.assertEqual((process, index), first_wrong(value), value)
        self.assertIs(False, is_program(value))
        assert_error(self, InvalidProgram, fields, processes_of, value)
        assert_error(self, InvalidProgram, fields, body_of, value, ())
        assert_error(self, InvalidProgram, fields, fork_place, value, ())

    def assert_right(self, value):
        self.assertIsNone(first_wrong(value), value)
        self.assertIs(True, is_program(value))
        self.assertEqual((), processes_of(value)[0])

    def assert_wrong_step(self, step, start=tuple(START)):
        self.assert_wrong((), len(start), list(start) + [step])
        # A child has the same table, and there it is wrong as well.
        self.assert_wrong((0,), 1, list(start) + [("fork", [("wait",), step]), ("wait",)])

    def assert_right_step(self, step, start=tuple(START)):
        self.assert_right(list(start) + [step])
        self.assert_right(list(start) + [("fork", [step]), ("wait",)])


class FirstWrong(Programs):

    def test_each_form(self):
        self.assert_right([])
        for step in FORMS:
            self.assert_right_step(step)

    def test_no_list(self):
        for value in NO_LISTS + (ListKind([("wait",)]), ListKind(), Unfriendly()):
            self.assert_wrong(None, None, value)

    def test_steps_that_are_no_tuples(self):
        for value in (None, True, 0, "wait", "", b"wait", ["wait"], [], {}, {"wait": 1}, 1.5, Unfriendly(),
                      TupleKind(("wait",)), ["close", 3], ["fork", []]):
            self.assert_wrong_step(value)

    def test_steps_without_a_known_word(self):
        for word in ("", "Wait", "waits", "wai", "wait ", "end", "all", "dup", None, 0, True, b"wait", (), ("wait",), [],
                     ["wait"], {}, Unfriendly()):
            self.assert_wrong_step((word,))
            self.assert_wrong_step((word, 3))
        self.assert_wrong_step(())

    def test_steps_of_other_lengths(self):
        for step in FORMS:
            for longer in (step + (1,), step + (None,), step + ("a",), step + ((),), (step,), step + step):
                self.assert_wrong_step(longer)
            if len(step) > 1:
                self.assert_wrong_step(step[:-1])
                self.assert_wrong_step(step[:1])
                self.assert_wrong_step(step[:1] + step[2:])
            self.assert_wrong_step(list(step))
            self.assert_wrong_step(TupleKind(step))

    def test_wrong_descriptors(self):
        for wrong in NO_DESCRIPTORS:
            for step in (("pipe", wrong, 6), ("pipe", 6, wrong), ("open", wrong, "f"), ("copy", wrong, 5),
                         ("copy", 0, wrong), ("close", wrong), ("write", wrong, 1), ("read", wrong, 1),
                         ("read", wrong, None), ("pass", wrong, 1, 1), ("pass", 0, wrong, 1), ("pass", wrong, 1, None)):
                self.assert_wrong_step(step)
        self.assert_wrong_step(("close", Unfriendly()))

    def test_each_descriptor(self):
        for number in range(10):
            self.assert_right_step(("open", number, "f"))
            self.assert_right_step(("copy", 0, number))
            self.assert_right_step(("pipe", number, (number + 1) % 10))
            opened = [("open", number, "f")]
            for step in (("write", number, 1), ("read", number, None), ("pass", number, number, 1), ("close", number)):
                self.assert_right_step(step, tuple(opened))

    def test_wrong_names(self):
        for wrong in NO_NAMES + (Unfriendly(),):
            self.assert_wrong_step(("open", 5, wrong))
        for name in ("a", "z", "err", "in", "abcdefgh", "zzzzzzzz"):
            self.assert_right_step(("open", 5, name))

    def test_amounts(self):
        for wrong in NO_UNITS + (Unfriendly(),):
            self.assert_wrong_step(("write", 1, wrong))
            self.assert_wrong_step(("read", 0, wrong))
            self.assert_wrong_step(("pass", 0, 1, wrong))
        for units in (1, 2, 10 ** 30 - 1, 10 ** 30):
            self.assert_right_step(("write", 1, units))
            self.assert_right_step(("read", 0, units))
            self.assert_right_step(("pass", 0, 1, units))
        self.assert_right_step(("read", 0, None))
        self.assert_right_step(("pass", 0, 1, None))
        self.assert_wrong_step(("write", 1, None))

    def test_forks_without_a_list(self):
        for value in NO_LISTS + (ListKind(), Unfriendly()):
            self.assert_wrong((), 0, [("fork", value)])
            self.assert_wrong((0,), 1, [("fork", [("wait",), ("fork", value)]), ("wait",)])

    def test_pipe_with_one_number_twice(self):
        for number in range(10):
            self.assert_wrong_step(("pipe", number, number))

    def test_free_numbers(self):
        for number in (5, 6, 7, 8, 9):
            for step in (("copy", number, 0), ("copy", number, number), ("close", number), ("write", number, 1),
                         ("read", number, 1), ("read", number, None), ("pass", number, 1, 1), ("pass", 0, number, None)):
                self.assert_wrong_step(step)
        for number in (3, 4):
            self.assert_wrong((), 0, [("close", number)])
        for number in (0, 1, 2):
            self.assert_right([("close", number)])

    def test_kinds_of_ends(self):
        for step in (("write", 3, 1), ("read", 4, 1), ("read", 4, None), ("pass", 4, 1, 1), ("pass", 0, 3, 1),
                     ("pass", 3, 3, None), ("pass", 4, 3, 1), ("pass", 4, 4, None)):
            self.assert_wrong_step(step)
        for step in (("write", 4, 1), ("read", 3, 1), ("pass", 3, 4, 1), ("pass", 0, 4, None), ("pass", 3, 0, None),
                     ("pass", 0, 0, 1), ("write", 0, 1), ("read", 1, 1), ("write", 2, 1), ("read", 2, None)):
            self.assert_right_step(step)
        self.assert_right([("open", 7, "f"), ("write", 7, 1), ("read", 7, None), ("pass", 7, 7, 1)])

    def test_a_pipe_replaces_what_stood_there(self):
        self.assert_right([("pipe", 0, 1), ("read", 0, 1), ("write", 1, 1), ("write", 2, 1)])
        self.assert_wrong((), 1, [("pipe", 0, 1), ("write", 0, 1)])
        self.assert_wrong((), 1, [("pipe", 0, 1), ("read", 1, 1)])
        self.assert_right([("pipe", 3, 4), ("pipe", 4, 3), ("read", 4, 1), ("write", 3, 1)])
        self.assert_wrong((), 2, [("pipe", 3, 4), ("pipe", 4, 3), ("write", 4, 1)])
        self.assert_wrong((), 2, [("pipe", 3, 4), ("pipe", 4, 3), ("read", 3, 1)])

    def test_an_open_replaces_what_stood_there(self):
        self.assert_right([("pipe", 3, 4), ("open", 3, "f"), ("write", 3, 1), ("open", 4, "f"), ("read", 4, 1)])
        self.assert_wrong((), 2, [("pipe", 3, 4), ("open", 3, "f"), ("read", 4, 1)])

    def test_a_copy_replaces_what_stood_there(self):
        self.assert_right([("pipe", 3, 4), ("copy", 3, 1), ("read", 1, 1), ("read", 3, 1)])
        self.assert_wrong((), 2, [("pipe", 3, 4), ("copy", 3, 1), ("write", 1, 1)])
        self.assert_wrong((), 2, [("pipe", 3, 4), ("copy", 4, 0), ("read", 0, 1)])
        self.assert_right([("pipe", 3, 4), ("copy", 0, 4), ("read", 4, 1), ("copy", 4, 3), ("write", 3, 1)])
        self.assert_right([("copy", 0, 0), ("read", 0, 1), ("copy", 0, 9), ("close", 0), ("copy", 9, 0), ("close", 9)])
        self.assert_wrong((), 3, [("copy", 0, 9), ("close", 0), ("read", 9, 1), ("copy", 0, 9)])

    def test_a_close_frees_one_number(self):
        self.assert_wrong((), 1, [("close", 0), ("close", 0)])
        self.assert_wrong((), 2, [("copy", 0, 5), ("close", 0), ("read", 0, 1)])
        self.assert_right([("copy", 0, 5), ("close", 0), ("read", 5, 1), ("open", 0, "f"), ("read", 0, 1)])

    def test_other_steps_leave_the_table(self):
        steps = [("wait",), ("write", 4, 1), ("read", 3, 1), ("pass", 3, 4, None), ("fork", [])]
        self.assert_right(START + steps + [("write", 4, 1), ("read", 3, 1), ("close", 0), ("close", 1), ("close", 2)])
        for number in (5, 6, 7, 8, 9):
            self.assert_wrong((), 6, START + steps + [("close", number)])


class Children(Programs):

    def test_a_child_inherits_the_table_ahead_of_its_fork(self):
        self.assert_right(START + [("copy", 3, 9), ("fork", [("read", 9, 1), ("read", 3, 1), ("write", 4, 1)])])
        self.assert_wrong((0,), 0, [("fork", [("read", 3, 1)]), ("pipe", 3, 4)])
        self.assert_wrong((0,), 0, [("close", 0), ("fork", [("read", 0, 1)])])
        self.assert_wrong((0,), 0, START + [("fork", [("write", 3, 1)])])
        self.assert_right(START + [("close", 3), ("fork", [("fork", [("write", 4, 1)]), ("write", 4, 1)])])
        self.assert_wrong((0, 0), 0, START + [("fork", [("close", 4), ("fork", [("write", 4, 1)])])])

    def test_a_child_does_not_change_the_table_of_its_parent(self):
        child = [("close", 0), ("pipe", 1, 2), ("open", 9, "f"), ("copy", 1, 8)]
        self.assert_right([("fork", child), ("read", 0, 1), ("write", 1, 1), ("read", 2, 1)])
        for number in (3, 8, 9):
            self.assert_wrong((), 1, [("fork", child), ("close", number)])
        self.assert_right([("fork", child), ("fork", child), ("close", 0)])
        self.assert_right([("fork", [("fork", child), ("read", 0, 1)]), ("read", 0, 1)])

    def test_a_parent_does_not_change_the_table_of_its_child(self):
        self.assert_right([("fork", [("read", 0, 1)]), ("close", 0), ("fork", [("write", 1, 1)]), ("open", 0, "f")])
        self.assert_wrong((1,), 0, [("fork", [("read", 0, 1)]), ("close", 0), ("fork", [("read", 0, 1)])])

    def test_sixty_steps(self):
        waits = [("wait",)] * 60
        self.assert_right(waits)
        self.assert_wrong((), 60, waits + [("wait",)])
        self.assert_wrong((), 60, waits + ["no step"] * 340)
        self.assert_right([("fork", waits)] + waits[:59])
        self.assert_wrong((0,), 60, [("fork", waits + [("wait",)])])
        self.assert_wrong((0,), 60, [("fork", waits + [("wait",)]), "no step"])
        self.assert_wrong((0, 0), 60, [("fork", [("fork", waits + [("wait",)])])])
        self.assert_right([("wait",)] * 59 + [("fork", waits)])
        self.assert_wrong((), 60, waits + [("fork", ["no step"])])

    def test_processes_side_by_side(self):
        self.assert_right(forks(7))
        self.assertEqual([()] + [(at,) for at in range(7)], processes_of(forks(7)))
        self.assert_wrong((), 7, forks(8))
        self.assert_wrong((), 9, [("wait",)] * 2 + forks(9))
        self.assert_wrong((), 7, forks(7) + [("fork", ["no step"])])

    def test_processes_within_one_another(self):
        self.assert_right([("fork", forks(6))])
        self.assert_wrong((0,), 7, [("fork", [("wait",)] + forks(7))])
        self.assert_wrong((0,), 6, [("fork", forks(8)), ("fork", [])])
        self.assert_right([("fork", forks(5)), ("fork", [])])
        self.assert_wrong((), 1, [("fork", forks(6)), ("fork", [])])
        self.assert_wrong((1, 0), 0, [("fork", forks(4)), ("fork", [("fork", [("fork", [])])]), ("fork", [])])
        self.assert_right([("fork", chain(3)), ("fork", chain(2))])
        self.assert_wrong((1, 0, 0), 0, [("fork", chain(3)), ("fork", chain(3))])

    def test_names_of_four_and_five_items(self):
        self.assert_right(chain(4))
        self.assert_right(chain(4, [("close", 0)]))
        self.assertEqual(all_names(4), processes_of(chain(4)))
        self.assert_wrong((0, 0, 0, 0), 0, chain(5))
        self.assert_wrong((0, 0, 0, 0), 1, chain(4, [("wait",), ("fork", ["no step"])]))
        self.assert_wrong((1, 0, 0, 0), 0, [("fork", []), ("fork", chain(4))])

    def test_a_body_in_itself(self):
        body = []
        body.append(("fork", body))
        self.assert_wrong((0, 0, 0, 0), 0, body)
        wide = [("wait",)]
        wide += [("fork", wide), ("fork", wide)]
        self.assert_wrong((0, 0, 0, 0), 1, wide)

    def test_one_body_in_several_forks(self):
        child = [("close", 0)]
        program = [("fork", child), ("fork", child)]
        self.assert_right(program)
        self.assertEqual([(), (0,), (1,)], processes_of(program))

    def test_the_first_wrong_step_of_several(self):
        wrong = ("close", 9)
        self.assert_wrong((), 1, [("wait",), wrong, ("fork", [wrong]), wrong])
        self.assert_wrong((0,), 0, [("wait",), ("fork", [wrong]), wrong])
        self.assert_wrong((0,), 2, [("fork", [("wait",), ("fork", []), wrong]), wrong])
        self.assert_wrong((0, 0), 0, [("fork", [("fork", [wrong]), wrong]), wrong])
        self.assert_wrong((1,), 1, [("fork", []), ("fork", [("wait",), wrong]), ("fork", [wrong]), wrong])
        self.assert_wrong((1,), 0, [("fork", [("fork", [])]), ("fork", [wrong])])
        self.assert_wrong((), 1, [("fork", []), ("fork", None), ("fork", [wrong])])
        self.assert_wrong((1, 0), 0, [("fork", []), ("fork", [("fork", [wrong])])])

    def test_random_values_against_a_second_judge(self):
        chance = random.Random(11)
        seen = {True: 0, False: 0}
        for _ in range(3000):
            value = random_body(chance, 0)
            expected = second_judge(value)
            self.assertEqual(expected, first_wrong(value), value)
            self.assertEqual(expected is None, is_program(value))
            seen[expected is None] += 1
        self.assertGreater(seen[True], 300)
        self.assertGreater(seen[False], 300)


def random_body(chance, depth):
    """A body with steps of the right form on a few numbers, most of which can be done."""
    body = []
    for _ in range(chance.randrange(6)):
        number, other = chance.randrange(5), chance.randrange(5)
        step = chance.choice([
            ("pipe", number, other), ("pipe", 3, 4), ("open", number, "f"), ("copy", number % 3, other),
            ("close", number), ("wait",), ("write", number, 1), ("read", number, None), ("pass", number, other, 2),
            ("fork",), ("fork",), ("fork",),
        ])
        if step == ("fork",):
            step = ("fork", random_body(chance, depth + 1) if depth < 6 else [])
        body.append(step)
    return body


def second_judge(value):
    """The first wrong step of a random body, found with a stack of the steps that are still to come."""
    count = 1
    waiting = [((), 0, value, {0: "rw", 1: "rw", 2: "rw"}, [0])]
    while waiting:
        process, index, body, modes, children = waiting.pop()
        if index == len(body):
            continue
        word, *rest = body[index]
        first = modes.get(rest[0], "") if rest and isinstance(rest[0], int) else ""
        after = dict(modes)
        behind = (process, index + 1, body, after, children)
        if word == "pipe":
            fine = rest[0] != rest[1]
            after[rest[0]] = "r"
            after[rest[1]] = "w"
        elif word == "open":
            fine = True
            after[rest[0]] = "rw"
        elif word == "copy":
            fine = first != ""
            after[rest[1]] = first
        elif word == "close":
            fine = first != ""
            after[rest[0]] = ""
        elif word == "fork":
            count += 1
            fine = count <= 8 and len(process) < 4
        else:
            fine = {"wait": True, "write": "w" in first, "read": "r" in first}.get(word)
            if word == "pass":
                fine = "r" in first and "w" in modes.get(rest[1], "")
        if not fine:
            return (process, index)
        waiting.append(behind)
        if word == "fork":
            waiting.append((process + (children[0],), 0, rest[0], dict(modes), [0]))
            children[0] += 1
    return None


TREE = [
    ("pipe", 3, 4),
    ("fork", [("close", 3), ("fork", [("write", 4, 1)]), ("wait",), ("fork", [])]),
    ("wait",),
    ("close", 4),
    ("fork", [("read", 3, None)]),
    ("fork", [("wait",), ("wait",), ("fork", [("fork", [("read", 0, 1)])])]),
]
BODIES = {
    (): TREE,
    (0,): [("close", 3), ("fork", [("write", 4, 1)]), ("wait",), ("fork", [])],
    (0, 0): [("write", 4, 1)],
    (0, 1): [],
    (1,): [("read", 3, None)],
    (2,): [("wait",), ("wait",), ("fork", [("fork", [("read", 0, 1)])])],
    (2, 0): [("fork", [("read", 0, 1)])],
    (2, 0, 0): [("read", 0, 1)],
}
PLACES = {(): None, (0,): 1, (0, 0): 1, (0, 1): 3, (1,): 4, (2,): 5, (2, 0): 2, (2, 0, 0): 0}
NO_PROCESSES = (None, 0, True, "", "()", [], [0], {}, (3,), (-1,), (0, 2), (1, 0), (0, 0, 0), (2, 0, 0, 0), (False,),
                (0, True), (0, False), (True,), (2, 0, False), (0.0,), ("0",), ((0,),), ((),), (None,), ([],), ({},),
                (10 ** 30,), (0,) * 400, TupleKind(), TupleKind((0,)), (Unfriendly(),), Unfriendly())


class ProcessesAndBodies(Programs):

    def test_processes(self):
        self.assertEqual(list(BODIES), processes_of(TREE))
        self.assertEqual([()], processes_of([]))
        self.assertEqual([()], processes_of(program=[("wait",)]))

    def test_bodies(self):
        for process, body in BODIES.items():
            self.assertEqual(body, body_of(TREE, process))
            self.assertEqual(list, body_of(TREE, process).__class__)
        self.assertEqual([], body_of([], ()))

    def test_places(self):
        for process, place in PLACES.items():
            self.assertEqual(place, fork_place(TREE, process))
        self.assertIsNone(fork_place(program=TREE, process=()))

    def test_no_processes(self):
        for value in NO_PROCESSES:
            assert_error(self, InvalidProcess, {}, body_of, TREE, value)
            assert_error(self, InvalidProcess, {}, fork_place, TREE, value)
        assert_error(self, InvalidProcess, {}, body_of, [], (0,))
        assert_error(self, InvalidProcess, {}, fork_place, [], (0,))

    def test_the_program_is_checked_first(self):
        for function in (body_of, fork_place):
            assert_error(self, InvalidProgram, {"process": None, "index": None}, function, None, None)
            assert_error(self, InvalidProgram, {"process": (), "index": 1}, function, [("wait",), ("close", 9)], (9,))

    def test_results_are_new_down_to_the_bodies_of_forks(self):
        program = copy.deepcopy(TREE)
        for process in BODIES:
            result = body_of(program, process)
            spoil(result)
            self.assertEqual(TREE, program)
            self.assertEqual(BODIES[process], body_of(program, process))
        processes_of(program).clear()
        self.assertEqual(list(BODIES), processes_of(program))

    def test_equal_bodies_in_a_result_are_different_lists(self):
        child = [("close", 0)]
        result = body_of([("fork", child), ("fork", child)], ())
        result[0][1].append(("wait",))
        self.assertEqual([("fork", [("close", 0), ("wait",)]), ("fork", [("close", 0)])], result)
        self.assertEqual([("close", 0)], child)


def spoil(body):
    """Changes a body and the bodies of its forks."""
    for step in body:
        if step[0] == "fork":
            spoil(step[1])
    body.append("spoiled")


if __name__ == "__main__":
    unittest.main()
