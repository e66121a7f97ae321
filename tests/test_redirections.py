"""Redirections: [8], [9] and [10]."""

import random
import unittest

from fdwires.errors import FailingWords, InvalidRedirection, InvalidTable
from fdwires.redirections import applied, composed, normal_form, parting_table, same_words
from support import FULL, NO_LISTS, NO_NAMES, ListKind, Unfriendly, assert_error, full_without

OLD = tuple(("old", number) for number in range(10))
RIGHT = ["0>&0", "9>&9", "0>&9", "2>&1", "1>&-", "0>&-", "9>&-", "1>f", "0>abcdefgh", "9>z", "1<f", "0<abcdefgh", "9<in"]
NEAR_MISSES = (
    "", "1", ">", "1>", "1<", "1>&", ">f", "<f", ">&1", "&1", "1>&&1", "1>&1-", "1>&-1", "1>&--", "1<&1", "1<&-", "1>>f",
    "1<<f", "1<>f", "1><f", "1>=f", "1=f", "1&>f", "12>f", "2>&12", "2>&1 ", " 2>&1", "2 >&1", "2> &1", "2>& 1", "1> f",
    "1>f ", "1>F", "1>f1", "1>1", "1>2", "1<1", "1>f.g", "1>abcdefghi", "1<abcdefghi", "a>f", "a>&1", "1>&a", "->f",
    "->&1", "-1>f", "1>-", "1<-", "1>&f", "1>f\n", "\n1>f", "1>&1\n", "1>&\n", "1>\u00e4", "\u00b2>f", "\u0661>f",
    "1>&\u00b2", "1>&\u0661", "1&1", "1>f>g", "2>&1;", "1>_", "f", "ff", "fff",
)
NO_WORDS = (None, True, 1, 0, (), ("1>f",), ["1>f"], [], {}, b"1>f", 1.5, Unfriendly())
NO_TABLES = NO_LISTS + (
    ListKind(FULL), tuple(FULL), "abcdefghij", [], FULL[:9], FULL + ["k"], FULL + [None], [None] * 9, [None] * 11,
    dict(enumerate(FULL)), Unfriendly(),
)


def source_of(*pairs):
    """The sources that the numbers of words have, but for some numbers."""
    sources = list(OLD)
    for number, source in pairs:
        sources[number] = source
    return tuple(sources)


def second_run(words, table):
    """What words do to a table: None if they fail, otherwise the openings and the table behind them."""
    ends = dict(enumerate(table))
    openings = []
    for word in words:
        target, tail = int(word[0]), word[2:]
        if tail == "&-":
            ends[target] = None
        elif tail[0] == "&":
            if ends[int(tail[1])] is None:
                return None
            ends[target] = ends[int(tail[1])]
        else:
            openings.append((word[1], tail))
            ends[target] = ("new", len(openings) - 1)
    return (openings, [ends[number] for number in range(10)])


def telling_tables():
    """Tables that tell apart any words that do not do the same."""
    return [list(FULL)] + [full_without(number) for number in range(10)]


def random_words(chance, most, numbers=4):
    """Up to so many redirections of a few numbers and files."""
    words = []
    for _ in range(chance.randrange(most + 1)):
        target, origin = chance.randrange(numbers), chance.randrange(numbers)
        words.append(chance.choice([f"{target}>&{origin}"] * 4 + [f"{target}>&-", f"{target}>f", f"{target}<f",
                                                                 f"{target}>g"]))
    return words


FUNCTIONS = (
    (normal_form, ()), (applied, (FULL,)), (composed, ([],)), (same_words, ([],)), (parting_table, ([],)),
)


class Forms(unittest.TestCase):

    def assert_invalid(self, words, index):
        for function, rest in FUNCTIONS:
            assert_error(self, InvalidRedirection, {"index": index}, function, words, *rest)
        for function in (composed, same_words, parting_table):
            assert_error(self, InvalidRedirection, {"index": index}, function, ["1>&2", "2>f", "3<f"], words)

    def test_all_four_forms(self):
        for number in range(10):
            self.assertEqual(((), (), source_of((number, None))), normal_form([f"{number}>&-"]))
            for other in range(10):
                form = ((other,), (), source_of((number, ("old", other))))
                self.assertEqual(form, normal_form([f"{number}>&{other}"]))
            for sign in "<>":
                for name in ("f", "z", "abcdefgh"):
                    form = ((), ((sign, name),), source_of((number, ("new", 0))))
                    self.assertEqual(form, normal_form([f"{number}{sign}{name}"]))
        self.assertEqual((), normal_form(RIGHT)[0][2:2])

    def test_near_misses(self):
        for word in NEAR_MISSES + NO_WORDS:
            self.assert_invalid([word], 0)
            self.assert_invalid(RIGHT + [word], len(RIGHT))
            self.assert_invalid(["1>f", word, word, "1>f"], 1)
        for name in NO_NAMES:
            if isinstance(name, str):
                self.assert_invalid(["1>" + name], 0)
                self.assert_invalid(["1<" + name], 0)

    def test_no_list(self):
        for value in NO_LISTS + (ListKind(["1>f"]), ListKind(), "1>f", ("1>f",), Unfriendly()):
            self.assert_invalid(value, None)

    def test_forty_words(self):
        self.assertEqual(40, len(normal_form(["1>f"] * 40)[1]))
        self.assertEqual(FULL, applied(["1>&1"] * 40, FULL))
        self.assert_invalid(["1>f"] * 41, None)
        self.assert_invalid(["1>f"] * 400, None)
        # The length is looked at first.
        self.assert_invalid(["no word"] + ["1>f"] * 40, None)
        self.assert_invalid(["1>f"] * 39 + ["no word"], 39)

    def test_the_order_of_errors(self):
        for function in (composed, same_words, parting_table):
            assert_error(self, InvalidRedirection, {"index": 2}, function, ["1>f", "1>f", "1"], ["1"])
            assert_error(self, InvalidRedirection, {"index": None}, function, None, ["1"])
            assert_error(self, InvalidRedirection, {"index": 0}, function, ["1>&-", "1>&1"], ["1"])
        assert_error(self, InvalidRedirection, {"index": 1}, applied, ["1>f", "1"], None)
        assert_error(self, InvalidRedirection, {"index": 1}, applied, ["1>&1", "1"], full_without(1))
        assert_error(self, InvalidTable, {}, applied, ["1>&-", "1>&1"], None)


class NormalForms(unittest.TestCase):

    def test_no_words(self):
        self.assertEqual(((), (), OLD), normal_form([]))

    def test_words_that_fail_on_every_table(self):
        for words in (["1>&-", "2>&1"], ["1>&-", "1>&1"], ["1>&-", "2>f", "3>&1", "1>f"], ["3>&4", "4>&-", "2>&4"],
                      ["1>f", "1>&-", "2>&1"], ["1>f", "2>&1", "2>&-", "1>&-", "3>&2", "4>&3"], ["1>&-"] * 2 + ["0>&1"]):
            self.assertIsNone(normal_form(words), words)

    def test_words_that_get_a_number_back(self):
        self.assertEqual(((2,), (), source_of((1, ("old", 2)), (3, ("old", 2)))), normal_form(["1>&-", "1>&2", "3>&1"]))
        self.assertEqual(((), (("<", "f"),), source_of((1, ("new", 0)), (3, ("new", 0)))),
                         normal_form(["1>&-", "1<f", "3>&1"]))

    def test_needs(self):
        self.assertEqual((1,), normal_form(["1>&1"])[0])
        self.assertEqual(OLD, normal_form(["1>&1", "7>&7"])[2])
        self.assertEqual((1, 7), normal_form(["7>&7", "1>&1", "7>&7"])[0])
        self.assertEqual((0, 3, 9), normal_form(["1>&9", "2>&3", "4>&0"])[0])
        # What has been copied or opened already is needed no more.
        self.assertEqual((2,), normal_form(["1>&2", "3>&1", "4>&3"])[0])
        self.assertEqual((), normal_form(["2>f", "3>&2", "4>&3", "2>&-"])[0])
        self.assertEqual((2,), normal_form(["1>&2", "1>&-"])[0])
        self.assertEqual((2,), normal_form(["1>&2", "1>f"])[0])

    def test_openings_that_are_not_kept(self):
        form = normal_form(["1>f", "1<g", "1>f", "1>&-"])
        self.assertEqual(((), ((">", "f"), ("<", "g"), (">", "f")), source_of((1, None))), form)
        self.assertEqual(source_of((1, ("new", 1))), normal_form(["1>f", "1>f"])[2])

    def test_sources(self):
        form = normal_form(["3>&1", "1>&2", "2>&3", "3>&-"])
        self.assertEqual(((1, 2), (), source_of((1, ("old", 2)), (2, ("old", 1)), (3, None))), form)
        form = normal_form(["9<f", "0>&9", "9>&0", "5>g", "4>&5"])
        self.assertEqual(source_of((9, ("new", 0)), (0, ("new", 0)), (5, ("new", 1)), (4, ("new", 1))), form[2])

    def test_kinds_of_values(self):
        form = normal_form(["1>f", "2>&1"])
        self.assertEqual([tuple] * 4, [form.__class__] + [part.__class__ for part in form])
        self.assertEqual(tuple, form[1][0].__class__)

    def test_against_tables(self):
        chance = random.Random(3)
        for _ in range(1500):
            words = random_words(chance, 8, chance.choice([2, 4, 10]))
            form = normal_form(words)
            for table in telling_tables():
                expected = second_run(words, table)
                if form is None or any(table[need] is None for need in form[0]):
                    self.assertIsNone(expected, (words, table))
                    continue
                ends = [source if source is None or source[0] == "new" else table[source[1]] for source in form[2]]
                self.assertEqual((list(form[1]), ends), expected, (words, table))


class Composed(unittest.TestCase):

    def test_one_behind_the_other(self):
        self.assertEqual(normal_form(["2>&1", "1>f"]), composed(["2>&1"], ["1>f"]))
        self.assertEqual(normal_form(["1>f", "2>&1"]), composed(["1>f"], ["2>&1"]))
        self.assertEqual(((), (("<", "f"), (">", "g")), source_of((1, ("new", 0)), (2, ("new", 1)))),
                         composed(["1<f"], ["2>g"]))
        self.assertEqual(((), (), OLD), composed([], []))
        self.assertEqual(normal_form(["1>f"]), composed(words=[], other_words=["1>f"]))
        self.assertEqual(normal_form(["1>f"]), composed(words=["1>f"], other_words=[]))

    def test_needs_that_the_first_words_give(self):
        self.assertEqual((), composed(["1>f"], ["2>&1"])[0])
        self.assertEqual((3,), composed(["1>&3"], ["2>&1"])[0])
        self.assertEqual((1, 3), composed(["2>&3"], ["4>&1"])[0])
        self.assertEqual((3,), composed(["1>&3"], ["2>&1", "1>&2", "4>&3", "5>&1", "1>&1"])[0])

    def test_more_than_forty_words_together(self):
        form = composed(["1>f"] * 40, ["1<g"] * 40)
        self.assertEqual(((">", "f"),) * 40 + (("<", "g"),) * 40, form[1])
        self.assertEqual(("new", 79), form[2][1])

    def test_words_that_always_fail(self):
        failing = ["1>&-", "2>&1"]
        self.assertIsNone(composed(failing, ["1>f"]))
        self.assertIsNone(composed(["1>f"], failing))
        self.assertIsNone(composed(failing, failing))
        # Here only both together always fail.
        self.assertIsNone(composed(["1>&-"], ["2>&1"]))
        self.assertIsNotNone(composed(["2>&1"], ["1>&-"]))


class SameWords(unittest.TestCase):

    def assert_same(self, expected, words, other_words):
        self.assertIs(expected, same_words(words, other_words), (words, other_words))
        self.assertIs(expected, same_words(other_words=words, words=other_words), (words, other_words))
        self.assertEqual(expected, normal_form(words) == normal_form(other_words))

    def test_words_that_do_the_same(self):
        for words, other_words in (
            ([], []),
            (["1>&-"], ["1>&-", "1>&-"]),
            (["1>&2", "1>&-"], ["1>&2", "1>&2", "1>&-"]),
            (["1>&2", "3>&2"], ["3>&2", "1>&3"]),
            (["1>&1"], ["1>&1", "1>&1"]),
            (["1>&2", "1>&1"], ["1>&2"]),
            (["1>&-", "2>&1"], ["3>&-", "4>f", "2>&3"]),
            (["1>f", "2>&1"], ["2>f", "1>&2"]),
            (["3>&1", "1>&2", "2>&3", "3>&-"], ["3>&2", "2>&1", "1>&3", "3>&-"]),
            (["1>&-", "3>f"], ["3>f", "1>&-"]),
        ):
            self.assert_same(True, words, other_words)

    def test_words_that_do_not(self):
        for words, other_words in (
            ([], ["1>&1"]),
            ([], ["1>&-"]),
            (["1>&-"], ["2>&-"]),
            (["1>&2"], ["2>&1"]),
            (["1>&2", "1>&-"], ["1>&-"]),
            (["1>f"], ["1<f"]),
            (["1>f"], ["1>g"]),
            (["1>f"], ["1>f", "1>f"]),
            (["1>f", "2>f"], ["2>f", "1>f"]),
            (["1>f", "2>g"], ["2>g", "1>f"]),
            (["1>f", "2>&1"], ["1>f", "2>f"]),
            (["1>f", "1>&-"], ["1>&-"]),
            (["1>&-", "2>&1"], []),
            (["1>&-", "2>&1"], ["2>&1"]),
            (["2>&1", "1>f"], ["1>f", "2>&1"]),
            (["3>&1", "1>&2", "2>&3", "3>&-"], ["4>&2", "2>&1", "1>&4", "4>&-"]),
        ):
            self.assert_same(False, words, other_words)

    def test_against_tables(self):
        chance = random.Random(4)
        found = {True: 0, False: 0}
        for _ in range(6000):
            words, other_words = random_words(chance, 4, 2), random_words(chance, 4, 2)
            same = all([second_run(words, table) == second_run(other_words, table) for table in telling_tables()])
            self.assert_same(same, words, other_words)
            found[same] += 1
        self.assertGreater(found[True], 300)
        self.assertGreater(found[False], 300)


class Applied(unittest.TestCase):

    def test_tables(self):
        table = ["tty", "a", "b"] + [None] * 7
        self.assertEqual(table, applied([], table))
        self.assertEqual(["tty", "b", "b"] + [None] * 7, applied(["1>&2"], table))
        self.assertEqual(["tty", None, "b"] + [None] * 7, applied(["1>&-", "9>&-"], table))
        self.assertEqual([("new", 1), "a", ("new", 0)] + [None] * 6 + [("new", 0)],
                         applied(words=["2>f", "0<g", "9>&2"], table=table))
        self.assertEqual([("new", 2), ("new", 1)], applied(["0>f", "1>f", "0>f"], [None] * 10)[:2])

    def test_the_result_is_new(self):
        table = list(FULL)
        for words in ([], ["1>&1"], ["1>&2"]):
            result = applied(words, table)
            self.assertIsNot(table, result)
            result.clear()
            self.assertEqual(FULL, table)
            self.assertEqual(10, len(applied(words, table)))

    def test_failing_words(self):
        table = ["tty", "a", "b"] + [None] * 7
        for words, number in ((["1>&3"], 3), (["3>&3"], 3), (["1>&-", "2>&1"], 1), (["0>f", "1>&9", "1>&8"], 9),
                              (["1>&8", "1>&9"], 8), (["1>&2", "2>&-", "4>&1", "5>&2", "5>&9"], 2)):
            assert_error(self, FailingWords, {"number": number}, applied, words, table)

    def test_a_number_that_gets_an_end_in_time(self):
        table = ["tty"] + [None] * 9
        self.assertEqual([("new", 0)], applied(["5>f", "0>&5", "5>&-"], table)[:1])
        self.assertEqual("tty", applied(["5>&0", "0>&-", "7>&5"], table)[7])

    def test_no_tables(self):
        for value in NO_TABLES:
            assert_error(self, InvalidTable, {}, applied, [], value)
        for name in NO_NAMES + (("new", 0), False, Unfriendly()):
            if name is not None:
                for number in (0, 4, 9):
                    assert_error(self, InvalidTable, {}, applied, [], FULL[:number] + [name] + FULL[number + 1:])
        # What is returned need not be a table.
        assert_error(self, InvalidTable, {}, applied, [], applied(["1>f"], FULL))

    def test_against_a_second_run(self):
        chance = random.Random(5)
        for _ in range(1500):
            words = random_words(chance, 6)
            table = [chance.choice(["a", "b", "c", None]) for _ in range(10)]
            expected = second_run(words, table)
            if expected is None:
                with self.assertRaises(FailingWords):
                    applied(words, table)
            else:
                self.assertEqual(expected[1], applied(words, table))


class PartingTables(unittest.TestCase):

    def assert_parted(self, words, other_words):
        for first, second in ((words, other_words), (other_words, words)):
            table = parting_table(first, second)
            self.assertIsNotNone(table, (first, second))
            self.assertEqual(list, table.__class__)
            # It is a table if it is taken as one.
            self.assertEqual(table, applied([], table))
            self.assertNotEqual(second_run(first, table), second_run(second, table), (first, second, table))

    def test_exactly_one_fails(self):
        self.assert_parted([], ["1>&1"])
        self.assert_parted(["1>&1"], ["2>&2"])
        self.assert_parted(["1>&2", "1>&-"], ["1>&3", "1>&-"])
        self.assert_parted(["1>&-"], ["1>&-", "2>&1"])
        self.assert_parted(["0>&0", "9>&9"], ["9>&9"])
        self.assert_parted(["1>&1", "2>&2", "3>f"], ["1>&-", "2>&1"])

    def test_other_openings(self):
        self.assert_parted(["1>f", "1>&-"], ["1>&-"])
        self.assert_parted(["1>f"], ["1<f"])
        self.assert_parted(["1>f", "2>&2"], ["1>g", "2>&2"])

    def test_other_tables(self):
        self.assert_parted(["1>&-"], ["2>&-"])
        self.assert_parted(["1>&2", "2>&1"], ["2>&1", "1>&2"])
        self.assert_parted(["1>&-"], [])
        self.assert_parted(["1>f", "2>f"], ["2>f", "1>f"])
        self.assert_parted(["9>&8", "8>&9"], ["8>&9", "9>&8"])

    def test_words_that_do_the_same(self):
        for words, other_words in (([], []), (["1>&-", "2>&1"], ["3>&-", "3>&3"]), (["1>f", "2>&1"], ["2>f", "1>&2"])):
            self.assertIsNone(parting_table(words=words, other_words=other_words))

    def test_the_result_is_new(self):
        parting_table([], ["1>&-"]).clear()
        self.assertEqual(10, len(parting_table([], ["1>&-"])))

    def test_random_words(self):
        chance = random.Random(6)
        for _ in range(2000):
            words, other_words = random_words(chance, 4, 3), random_words(chance, 4, 3)
            if same_words(words, other_words):
                self.assertIsNone(parting_table(words, other_words))
            else:
                self.assert_parted(words, other_words)


if __name__ == "__main__":
    unittest.main()
