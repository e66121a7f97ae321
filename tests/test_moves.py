"""Calls from one table to another: [6], [7] and [11] to [14]."""

import itertools
import random
import unittest

from fdwires.errors import InvalidCalls, InvalidTable, NoCalls
from fdwires.moves import (after_calls, calls_between, fewest_calls, is_calls, least_calls, next_calls, rings_of)
from support import (FULL, NO_DESCRIPTORS, NO_LISTS, NO_NAMES, ListKind, TupleKind, Unfriendly, assert_error,
                     full_without)

NO_TABLES = NO_LISTS + (
    ListKind(FULL), tuple(FULL), "abcdefghij", [], FULL[:9], FULL + ["k"], [None] * 9, [None] * 11,
    dict(enumerate(FULL)), Unfriendly(),
)
NO_CALLS = (
    None, True, 0, "close", "", (), [], {}, ["close", 0], ["copy", 0, 1], ("close",), ("copy",), ("copy", 0),
    ("close", 0, 1), ("close", 0, None), ("copy", 0, 1, 2), ("open", 0, "f"), ("pipe", 0, 1), ("wait",), ("Close", 0),
    ("copy ", 0, 1), ("", 0), (None, 0), (0, 0), (0, 1, 2), (b"close", 0), (("close",), 0), (["close"], 0), ("move", 0, 1),
    ("fork", []), ("write", 0, 1), ("close", (0,)), ("copy", [0], 1), (Unfriendly(), 0), Unfriendly(),
    TupleKind(("close", 0)), TupleKind(("copy", 0, 1)),
)
# The ends from which tables for a search are made; with more of them there are rarely rings.
FEW_ENDS = (["a", "b", None], ["a", "b", "c"], ["a", "b", "c", None], ["a", "b", "c", "d", None])


def table_of(*ends):
    """A table that begins with these ends and is free behind them."""
    return list(ends) + [None] * (10 - len(ends))


def all_calls(table):
    """All calls that are possible on a table, ascending."""
    taken = [number for number, end in enumerate(table) if end is not None]
    return sorted([("close", number) for number in taken] + [("copy", a, b) for a in taken for b in range(10)])


def one_call(table, call):
    """The tuple of the ends behind a call."""
    ends = list(table)
    if call[0] == "copy":
        ends[call[2]] = ends[call[1]]
    else:
        ends[call[1]] = None
    return tuple(ends)


def can_reach(table, goal, most, failed):
    """Whether at most so many calls lead from a table to a goal: a search over all calls.

    It is given up only where it cannot succeed: a call changes one number only, and an end that is lost stays lost.
    """
    changed = sum(1 for end, wish in zip(table, goal) if end != wish)
    if changed == 0:
        return True
    if changed > most or (table, most) in failed or any(wish is not None and wish not in table for wish in goal):
        return False
    if any(can_reach(one_call(table, call), goal, most - 1, failed) for call in all_calls(table)):
        return True
    failed.add((table, most))
    return False


def searched_count(table, goal, most):
    """The number of the fewest calls, None if more than so many are needed."""
    for many in range(most + 1):
        if can_reach(tuple(table), tuple(goal), many, set()):
            return many
    return None


def searched_first_calls(table, goal, many):
    """All first calls of the lists of so many calls that lead to a goal."""
    failed = set()
    return [call for call in all_calls(table) if many and can_reach(one_call(table, call), tuple(goal), many - 1, failed)]


def searched_least_list(table, goal, many):
    """The least list of so many calls that leads to a goal."""
    calls = []
    for left in range(many, 0, -1):
        calls.append(searched_first_calls(table, goal, left)[0])
        table = one_call(table, calls[-1])
    return calls


def defined_rings(table, goal):
    """All rings, tried out one by one by their definition."""
    changed = [number for number in range(10) if table[number] != goal[number]]
    found = []
    for length in range(2, len(changed) + 1):
        for ring in itertools.permutations(changed, length):
            ends = [goal[number] for number in ring]
            if (ring[0] == min(ring) and None not in ends
                    and all(goal[number] == table[ring[(at + 1) % length]] for at, number in enumerate(ring))
                    and not any(table[number] in ends for number in range(10) if number not in ring)
                    and not any(goal[number] in ends for number in changed if number not in ring)
                    and len(set(ends)) == length):
                found.append(ring)
    return sorted(found)


def random_pair(chance, numbers, ends):
    """A table and a goal with few ends on few numbers, where some numbers have often changed places."""
    if chance.randrange(2):
        table = chance.sample(ends, min(numbers, len(ends)))
    else:
        table = [chance.choice(ends) for _ in range(numbers)]
    table += [None] * (10 - len(table))
    goal = list(table)
    for _ in range(chance.randrange(4)):
        a, b = chance.randrange(numbers), chance.randrange(numbers)
        goal[a], goal[b] = goal[b], goal[a]
    if chance.randrange(3) == 0:
        goal[chance.randrange(10)] = chance.choice(ends + [None])
    return table, goal


def shuffled_pair(chance):
    """A table with many ends, and a goal that has most of them at other numbers."""
    table = FULL[:]
    for _ in range(chance.randrange(3)):
        table[chance.randrange(10)] = chance.choice(table + [None])
    goal = table[:]
    places = chance.sample(range(10), chance.randrange(11))
    for place, end in zip(places, chance.sample([table[place] for place in places], len(places))):
        goal[place] = end
    if chance.randrange(2):
        goal[chance.randrange(10)] = chance.choice(table + [None])
    return table, goal


class Tables(unittest.TestCase):

    def assert_no_table(self, value):
        for function, rest in ((rings_of, ()), (fewest_calls, ()), (calls_between, ()), (next_calls, ()),
                               (least_calls, ([],))):
            assert_error(self, InvalidTable, {}, function, value, FULL, *rest)
            assert_error(self, InvalidTable, {}, function, FULL, value, *rest)
        for function in (is_calls, after_calls):
            assert_error(self, InvalidTable, {}, function, value, [])

    def test_no_tables(self):
        for value in NO_TABLES:
            self.assert_no_table(value)

    def test_ends_that_are_none(self):
        for name in NO_NAMES + (("new", 0), False, Unfriendly()):
            if name is not None:
                for number in (0, 5, 9):
                    self.assert_no_table(FULL[:number] + [name] + FULL[number + 1:])

    def test_tables_of_each_kind(self):
        for table in ([None] * 10, FULL, ["abcdefgh"] * 10, ["z"] * 9 + [None], [None] * 9 + ["zzzzzzzz"]):
            self.assertEqual(0, fewest_calls(table, list(table)))
            self.assertEqual(table, after_calls(table, []))

    def test_the_order_of_errors(self):
        assert_error(self, InvalidTable, {}, after_calls, FULL[1:], None)
        assert_error(self, InvalidTable, {}, is_calls, FULL[1:], None)
        assert_error(self, InvalidTable, {}, least_calls, FULL, FULL[1:], None)
        assert_error(self, InvalidTable, {}, least_calls, FULL[1:], FULL, None)
        for function in (calls_between, next_calls):
            assert_error(self, InvalidTable, {}, function, [None] * 10, ["A"] * 10)


class Rings(unittest.TestCase):

    def assert_rings(self, expected, table, goal):
        self.assertEqual(expected, rings_of(table, goal))
        self.assertEqual(expected, rings_of(goal=goal, table=table))
        self.assertEqual(expected, defined_rings(table, goal) if len(expected) < 3 else expected)

    def test_no_rings(self):
        self.assert_rings([], FULL, FULL)
        self.assert_rings([], [None] * 10, [None] * 10)
        self.assert_rings([], table_of("a", "b"), table_of("b"))
        self.assert_rings([], table_of("a"), table_of(None, "a"))
        self.assert_rings([], table_of("a", "b", "c"), table_of("b", "c", "c"))
        self.assert_rings([], table_of("a", "b"), table_of("b", "x"))

    def test_directions(self):
        self.assert_rings([(0, 1)], table_of("a", "b"), table_of("b", "a"))
        # 0 gets what 2 has, 2 gets what 1 has, 1 gets what 0 has.
        self.assert_rings([(0, 2, 1)], table_of("a", "b", "c"), table_of("c", "a", "b"))
        self.assert_rings([(0, 1, 2)], table_of("a", "b", "c"), table_of("b", "c", "a"))
        self.assert_rings([(3, 9, 5)], table_of(None, "x", None, "a", None, "b", "x", None, None, "c"),
                          table_of(None, "x", None, "c", None, "a", "x", None, None, "b"))

    def test_several_rings(self):
        self.assert_rings([(0, 9), (1, 2)], list("abcdefghij"), list("jcbdefghia"))
        pairs = list("badcfehgji")
        self.assert_rings([(0, 1), (2, 3), (4, 5), (6, 7), (8, 9)], FULL, pairs)
        self.assert_rings([tuple(range(10))], FULL, FULL[1:] + FULL[:1])
        self.assert_rings([(0,) + tuple(range(9, 0, -1))], FULL, FULL[-1:] + FULL[:-1])
        self.assert_rings([(0, 2), (1, 3)], table_of("a", "b", "c", "d"), table_of("c", "d", "a", "b"))

    def test_several_holders_of_an_end(self):
        # Another number of the table has one of the ends, changed or not.
        self.assert_rings([], table_of("a", "b", "a"), table_of("b", "a", "a"))
        self.assert_rings([], table_of("a", "b", "a"), table_of("b", "a", None))
        self.assert_rings([], table_of("x", "x", "a", "b"), table_of("a", "b", "x"))
        self.assert_rings([], table_of("a", "b", "c", "c"), table_of("b", "c", "a", "c"))
        self.assert_rings([], table_of("a", "b", "c", "c"), table_of("b", "c", "a"))
        # Another changed number has one of the ends in the goal.
        self.assert_rings([], table_of("a", "b"), table_of("b", "a", "a"))
        self.assert_rings([], table_of("a", "b", "c"), table_of("b", "a", "b"))
        # Other ends do not matter.
        self.assert_rings([(0, 1)], table_of("a", "b", "c", "c"), table_of("b", "a", None, "c", "c"))

    def test_against_the_definition(self):
        chance = random.Random(21)
        many = 0
        for _ in range(400):
            table, goal = random_pair(chance, 6, ["a", "b", "c", "d", "e", None])
            self.assertEqual(defined_rings(table, goal), rings_of(table, goal), (table, goal))
            many += len(rings_of(table, goal)) > 0
        self.assertGreater(many, 50)

    def test_the_result_is_new(self):
        table, goal = table_of("a", "b"), table_of("b", "a")
        rings_of(table, goal).clear()
        self.assertEqual([(0, 1)], rings_of(table, goal))
        self.assertEqual(tuple, rings_of(table, goal)[0].__class__)


class FewestCalls(unittest.TestCase):

    def assert_fewest(self, expected, table, goal):
        self.assertEqual(expected, fewest_calls(table, goal), (table, goal))
        self.assertEqual(expected, fewest_calls(goal=goal, table=table))
        if expected is None:
            assert_error(self, NoCalls, {}, calls_between, table, goal)
            assert_error(self, NoCalls, {}, next_calls, table, goal)
            return
        calls = calls_between(table, goal)
        self.assertEqual((expected, goal), (len(calls), after_calls(table, calls)))

    def test_equal_tables(self):
        for table in (FULL, [None] * 10, table_of("a", "a", None, "b")):
            self.assert_fewest(0, table, list(table))
            self.assertEqual([], calls_between(table, list(table)))
            self.assertEqual([], next_calls(table, list(table)))

    def test_without_rings(self):
        self.assert_fewest(1, table_of("a"), [None] * 10)
        self.assert_fewest(9, table_of("a"), ["a"] * 10)
        self.assert_fewest(2, table_of("a"), table_of(None, "a"))
        self.assert_fewest(3, table_of("a", "b", "c"), table_of("b", "c"))
        self.assert_fewest(10, FULL, [None] * 10)
        self.assert_fewest(10, ["a", "a"] + FULL[2:], FULL[2:] + [None, None])
        self.assert_fewest(9, FULL, FULL[1:] + ["j"])

    def test_ends_that_are_missing(self):
        self.assert_fewest(None, [None] * 10, table_of("a"))
        self.assert_fewest(None, FULL, FULL[:9] + ["k"])
        self.assert_fewest(None, table_of("a", "b"), table_of("b", "a", "c"))
        self.assert_fewest(None, table_of("ab"), table_of("a"))

    def test_rings_with_a_changed_spare_number(self):
        self.assert_fewest(4, table_of("a", "b", "c"), table_of("b", "a"))
        self.assert_fewest(5, table_of("a", "b", "c", "d"), table_of("b", "c", "a"))
        self.assert_fewest(4, table_of("a", "b", None, "c"), table_of("b", "a", "c", "c"))
        self.assert_fewest(4, ["a", "b", "c"] + FULL[3:], ["b", "a", "d"] + FULL[3:])
        self.assert_fewest(11, FULL, FULL[1:9] + ["a", None])
        self.assert_fewest(14, FULL, list("badcfehg") + ["j", None])
        # Here two numbers are changed and in no ring.
        self.assert_fewest(5, table_of("a", "b", "c", "d"), table_of("b", "a", "d", None))

    def test_rings_with_an_unchanged_spare_number(self):
        self.assert_fewest(4, table_of("a", "b"), table_of("b", "a"))
        self.assert_fewest(4, ["b", "a"] + FULL[2:9] + [None], FULL[:9] + [None])
        self.assert_fewest(4, FULL[:9] + ["i"], list("bacdefghii"))
        self.assert_fewest(6, FULL[:9] + ["i"], list("bcdaefghii"))
        self.assert_fewest(7, FULL[:9] + [None], list("badcefghi") + [None])
        self.assert_fewest(13, FULL[:8] + [None, None], list("badcfehg") + [None, None])
        self.assert_fewest(10, ["x", "x"] + FULL[2:], ["x", "x"] + FULL[3:] + ["c"])

    def test_rings_without_a_spare_number(self):
        self.assert_fewest(None, FULL, list("bacdefghij"))
        self.assert_fewest(None, FULL, FULL[1:] + FULL[:1])
        self.assert_fewest(None, FULL, list("badcfehgji"))
        # The changed number that is in no ring makes the difference.
        self.assert_fewest(4, FULL, list("bacdefghi") + [None])
        self.assert_fewest(4, FULL, list("bacdefghi") + ["i"])

    def test_against_a_search_over_all_calls(self):
        chance = random.Random(22)
        counts = {}
        for at in range(150):
            table, goal = random_pair(chance, chance.randrange(2, 5), FEW_ENDS[at % len(FEW_ENDS)])
            many = searched_count(table, goal, 6)
            self.assertEqual(many, fewest_calls(table, goal), (table, goal))
            counts[many] = counts.get(many, 0) + 1
        for many in (None, 0, 1, 2, 3, 4, 5):
            self.assertGreater(counts.get(many, 0), 1, counts)

    def test_two_rings_against_a_search(self):
        table, goal = table_of("a", "b", "c", "d", "e"), table_of("b", "a", "d", "c")
        self.assertEqual(7, searched_count(table, goal, 7))
        self.assert_fewest(7, table, goal)

    def test_each_call_on_many_ends(self):
        # That one call less is left behind some call, never fewer, and that nothing leads out of where no calls
        # lead to the goal, makes the number right by itself.
        chance = random.Random(23)
        hopeless = 0
        for _ in range(400):
            table, goal = shuffled_pair(chance)
            many = fewest_calls(table, goal)
            behind = [fewest_calls(list(one_call(table, call)), goal) for call in all_calls(table)]
            self.assertEqual(many == 0, table == goal)
            if many is None:
                hopeless += 1
                self.assertEqual([None] * len(behind), behind)
            elif many > 0:
                self.assertEqual(many - 1, min(left for left in behind if left is not None), (table, goal))
        self.assertGreater(hopeless, 20)


class CallsBetween(unittest.TestCase):

    def test_least_lists(self):
        self.assertEqual([("close", 0)], calls_between(table_of("a"), [None] * 10))
        self.assertEqual([("close", 1), ("copy", 0, 2)], calls_between(table_of("a", "b"), table_of("a", None, "a")))
        self.assertEqual([("copy", 0, 1), ("close", 0)], calls_between(table_of("a"), table_of(None, "a")))
        self.assertEqual([("close", 0), ("close", 1), ("close", 2)],
                         calls_between(goal=[None] * 10, table=table_of("a", "b", "a")))
        self.assertEqual([("copy", 0, 3), ("copy", 1, 0), ("copy", 3, 1), ("close", 3)],
                         calls_between(table_of("a", "b", "c", None), table_of("b", "a", "c", None)))
        self.assertEqual([("copy", 0, 2), ("copy", 1, 0), ("copy", 2, 1), ("close", 2)],
                         calls_between(table_of("a", "b"), table_of("b", "a")))
        # Of two holders of an end the lesser one is copied, also if it got the end only now.
        self.assertEqual([("copy", 5, 0), ("copy", 0, 1)],
                         calls_between([None] * 5 + ["a"] + [None] * 4, ["a", "a"] + [None] * 3 + ["a"] + [None] * 4))

    def test_first_calls(self):
        table, goal = ["x", "x"] + [None] * 8, ["x", "x", "x"] + [None] * 7
        self.assertEqual([("copy", 0, 2), ("copy", 1, 2)], next_calls(table, goal))
        table, goal = table_of("a", "b"), table_of("b", "a")
        self.assertEqual([("copy", a, b) for a in (0, 1) for b in range(2, 10)], next_calls(goal=goal, table=table))
        table, goal = table_of("a", "b", "c"), table_of(None, "c", "b")
        self.assertEqual([("copy", 1, 0), ("copy", 2, 0)], next_calls(table, goal))
        table, goal = table_of("a", "b", "c"), table_of(None, "c", "c")
        self.assertEqual([("close", 0), ("copy", 2, 1)], next_calls(table, goal))

    def test_against_a_search_over_all_calls(self):
        chance = random.Random(24)
        longest = 0
        for at in range(120):
            table, goal = random_pair(chance, chance.randrange(2, 5), FEW_ENDS[at % len(FEW_ENDS)])
            many = searched_count(table, goal, 5)
            if many is not None:
                self.assertEqual(searched_first_calls(table, goal, many), next_calls(table, goal), (table, goal))
                self.assertEqual(searched_least_list(table, goal, many), calls_between(table, goal), (table, goal))
                longest = max(longest, many)
        self.assertEqual(5, longest)

    def test_many_ends(self):
        chance = random.Random(25)
        for _ in range(150):
            table, goal = shuffled_pair(chance)
            many = fewest_calls(table, goal)
            if many is None:
                assert_error(self, NoCalls, {}, calls_between, table, goal)
                assert_error(self, NoCalls, {}, next_calls, table, goal)
                continue
            calls = calls_between(table, goal)
            self.assertEqual((many, goal), (len(calls), after_calls(table, calls)))
            self.assertIs(True, least_calls(table, goal, calls))
            first = next_calls(table, goal)
            self.assertEqual(sorted(first), first)
            self.assertEqual(calls[:1], first[:1])
            for call in first:
                rest = calls_between(after_calls(table, [call]), goal)
                self.assertIs(True, least_calls(table, goal, [call] + rest))

    def test_results_are_new(self):
        table, goal = table_of("a", "b"), table_of("b", "a")
        for function in (calls_between, next_calls):
            result = function(table, goal)
            length = len(result)
            result.clear()
            self.assertEqual(length, len(function(table, goal)))


class Calls(unittest.TestCase):

    table = table_of("a", "b", None, "a")

    def assert_impossible(self, index, calls, table=None):
        table = self.table if table is None else table
        before = list(table)
        self.assertIs(False, is_calls(table, calls))
        assert_error(self, InvalidCalls, {"index": index}, after_calls, table, calls)
        self.assertIs(False, least_calls(table, FULL, calls))
        self.assertIs(False, least_calls(table, list(table), calls))
        self.assertEqual(before, table)

    def assert_possible(self, expected, calls, table=None):
        table = self.table if table is None else table
        before = list(table)
        self.assertIs(True, is_calls(table, calls))
        self.assertIs(True, is_calls(value=calls, table=table))
        self.assertEqual(expected, after_calls(table, calls))
        self.assertEqual(expected, after_calls(calls=calls, table=table))
        self.assertEqual(before, table)

    def test_possible_calls(self):
        self.assert_possible(self.table, [])
        self.assert_possible(table_of("a", "a", None, "a"), [("copy", 0, 1)])
        self.assert_possible(table_of("b", "b", None, "a"), [("copy", 1, 0)])
        self.assert_possible(self.table, [("copy", 0, 0), ("copy", 3, 0), ("copy", 1, 1)])
        self.assert_possible(table_of(None, "b", None, "a"), [("close", 0)])
        self.assert_possible(table_of(None, None, "b", "a"), [("copy", 1, 2), ("close", 1), ("close", 0)])
        self.assert_possible([None] * 9 + ["b"], [("copy", 1, 9), ("close", 0), ("close", 1), ("close", 3)])
        self.assert_possible(FULL[:9] + ["a"], [("copy", 0, 9)], FULL)

    def test_free_numbers(self):
        for call in (("close", 2), ("copy", 2, 0), ("copy", 2, 2), ("copy", 9, 2), ("close", 9)):
            self.assert_impossible(0, [call])
            self.assert_impossible(2, [("copy", 0, 1), ("copy", 0, 0), call, ("close", 2)])
        self.assert_impossible(1, [("close", 0), ("close", 0)])
        self.assert_impossible(1, [("close", 0), ("copy", 0, 1)])
        self.assert_impossible(3, [("copy", 0, 2), ("close", 2), ("copy", 3, 1), ("copy", 2, 0)])
        self.assert_impossible(0, [("close", 0)], [None] * 10)

    def test_items_that_are_no_calls(self):
        for value in NO_CALLS:
            self.assert_impossible(0, [value])
            self.assert_impossible(1, [("copy", 0, 1), value, ("close", 2)])
        for wrong in NO_DESCRIPTORS + (Unfriendly(),):
            for call in (("close", wrong), ("copy", wrong, 1), ("copy", 1, wrong)):
                self.assert_impossible(0, [call], FULL)
                self.assert_impossible(1, [("close", 0), call])

    def test_no_list_of_at_most_a_hundred_items(self):
        for value in NO_LISTS + (ListKind(), ListKind([("close", 0)]), (("close", 0),), Unfriendly()):
            self.assert_impossible(None, value)
        hundred = [("copy", 0, 0)] * 100
        self.assert_possible(self.table, hundred)
        self.assert_impossible(None, hundred + [("copy", 0, 0)])
        self.assert_impossible(None, hundred * 4)
        self.assert_impossible(None, ["no call"] + hundred)
        self.assert_impossible(99, hundred[:99] + [("close", 2)])

    def test_the_result_is_new(self):
        result = after_calls(self.table, [])
        self.assertIsNot(self.table, result)
        result.clear()
        self.assertEqual(10, len(after_calls(self.table, [])))


class LeastCalls(unittest.TestCase):

    def test_lists_of_the_fewest_calls(self):
        table, goal = table_of("a", "b"), table_of("b", "a")
        for spare in range(2, 10):
            for first, second in ((0, 1), (1, 0)):
                calls = [("copy", first, spare), ("copy", second, first), ("copy", spare, second), ("close", spare)]
                self.assertIs(True, least_calls(table, goal, calls))
                self.assertIs(True, least_calls(value=calls, goal=goal, table=table))
                self.assertIs(False, least_calls(table, goal, calls[:3]))
                self.assertIs(False, least_calls(table, goal, calls + [("copy", 0, 0)]))
                self.assertIs(False, least_calls(table, goal, [("copy", 0, 0)] + calls))
                self.assertIs(False, least_calls(table, goal, calls[::-1]))
                self.assertIs(False, least_calls(table, table, calls))
                self.assertIs(False, least_calls(table, goal, tuple(calls)))

    def test_other_ends_are_reached(self):
        table = table_of("a", "b")
        self.assertIs(False, least_calls(table, table_of("a"), [("close", 0)]))
        self.assertIs(True, least_calls(table, table_of("a"), [("close", 1)]))
        self.assertIs(False, least_calls(table, table_of("a", "a"), [("close", 1), ("copy", 0, 1)]))
        self.assertIs(True, least_calls(table, table_of("a", "a"), [("copy", 0, 1)]))

    def test_equal_tables(self):
        self.assertIs(True, least_calls(FULL, list(FULL), []))
        self.assertIs(False, least_calls(FULL, list(FULL), [("copy", 0, 0)]))
        self.assertIs(False, least_calls(FULL, list(FULL), ()))

    def test_goals_that_cannot_be_reached(self):
        for goal in (list("bacdefghij"), FULL[:9] + ["k"]):
            for calls in ([], [("copy", 0, 1)], [("copy", 0, 1), ("copy", 1, 0)], [("close", 9)]):
                self.assertIs(False, least_calls(FULL, goal, calls))
        self.assertIs(False, least_calls([None] * 10, table_of("a"), []))

    def test_any_values(self):
        table = full_without(9)
        values = NO_LISTS + NO_CALLS[1:] + ([None], [()], [("close", True)], [("close", 9)], [("copy", 0, True)])
        for value in values:
            if value.__class__ != list or len(value) > 0:
                self.assertIs(False, least_calls(table, list(table), value))
                self.assertIs(False, least_calls(table, full_without(8, 9), value))
                self.assertIs(False, is_calls(table, value))
        self.assertIs(False, least_calls(table_of("a", "a"), table_of("a"), [("close", True)]))
        self.assertIs(True, least_calls(table_of("a", "a"), table_of("a"), [("close", 1)]))


if __name__ == "__main__":
    unittest.main()
