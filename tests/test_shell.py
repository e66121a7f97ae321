"""The small shell: [30], [31] and [32]."""

import random
import re
import unittest

from fdwires.calm import file_lengths, is_calm, last_state, positions, why_not_calm
from fdwires.errors import InvalidCapacity, InvalidNumber, InvalidText
from fdwires.hangs import hangs
from fdwires.programs import is_program, processes_of
from fdwires.redirections import applied
from fdwires.runs import final_states
from fdwires.shell import commands_of, compiled, head_fates
from machine import all_bodies, all_tables, drawn_run
from support import NO_CAPACITIES, Unfriendly, assert_error

BIG = 10 ** 30
IN, OUT, ERR = ("file", (), -3, "in"), ("file", (), -2, "out"), ("file", (), -1, "err")

COMMAND = r"(?:(?:gen|head) (?:[1-9]\d{0,29}|10{30})|cat|sink)(?: \d(?:>&\d|>&-|>[a-z]{1,8}|<[a-z]{1,8})){0,20}"
LINE = re.compile(COMMAND + r"(?: [|;] " + COMMAND + "){0,6}")


def is_line(words):
    return LINE.fullmatch(" ".join(words)) is not None


def is_beginning(words):
    """Whether a line begins with these words: then it needs no more than one word behind them."""
    return any(is_line(words + more) for more in ([], ["1"], ["cat"]))


def first_fault(line):
    """The word of the error for a string, None for a line."""
    words = line.split(" ")
    for at in range(len(words)):
        if not is_beginning(words[:at + 1]):
            return at
    return None if is_line(words) else len(words)


def parts_of(line):
    """The pipelines of a line as lists of tuples of the index of the first word, this word, the amount and the rest."""
    found = [[]]
    at = 0
    for part in re.split(r" ([|;]) ", line):
        if part == ";":
            found.append([])
        if part in (";", "|"):
            at += 1
            continue
        words = part.split(" ")
        many = 2 if words[0] in ("gen", "head") else 1
        found[-1].append((at, words[0], int(words[1]) if many == 2 else None, words[many:]))
        at += len(words)
    return found


def kind_behind(words, first, last):
    """The table of letters of a command behind its redirections: what its numbers stand for.

    f is a file, r and w are ends of pipes. A tuple with the index of a redirection if it copies a free number.
    """
    table = ["f" if first else "r", "f" if last else "w", "f"] + [None] * 7
    for index, word in enumerate(words):
        number, rest = int(word[0]), word[2:]
        if rest == "&-":
            table[number] = None
        elif rest[0] == "&":
            if table[int(rest[1])] is None:
                return index
            table[number] = table[int(rest[1])]
        else:
            table[number] = "f"
    return table


def second_fault(line):
    """The word of the error of a line that cannot be compiled, None for one that can."""
    for commands in parts_of(line):
        for at, (place, word, amount, words) in enumerate(commands):
            table = kind_behind(words, at == 0, at == len(commands) - 1)
            if isinstance(table, int):
                return place + (1 if amount is None else 2) + table
            if word != "gen" and table[0] not in ("f", "r") or word != "sink" and table[1] not in ("f", "w"):
                return place
    return None


def drawn_line(chance, most=7):
    """A line of the right form."""
    many = chance.randint(1, most)
    text = drawn_command(chance)
    for _ in range(many - 1):
        text += chance.choice([" | ", " | ", " ; "]) + drawn_command(chance)
    return text


def drawn_command(chance):
    word = chance.choice(["gen", "cat", "sink", "head"])
    amount = f" {chance.choice([1, 2, 3, chance.randint(1, 40), BIG])}" if word in ("gen", "head") else ""
    words = [drawn_word(chance) for _ in range(chance.choice([0, 0, 1, 2, 3, chance.randrange(21)]))]
    return word + amount + "".join(" " + other for other in words)


def drawn_word(chance):
    number = chance.choice([0, 1, 1, 2, 2, 3, chance.randrange(10)])
    other = chance.choice([0, 1, 1, 2, 2, 2, 3, chance.randrange(10)])
    return f"{number}" + chance.choice([f">&{other}", f">&{other}", ">&-", ">f", "<g", ">abcdefgh"])


class Shell(unittest.TestCase):

    def assert_wrong_form(self, line, word):
        for function in (commands_of, compiled):
            assert_error(self, InvalidText, {"word": word}, function, line)


class Forms(Shell):

    def test_known_lines(self):
        rows = [
            ("cat", [[("cat", None, [])]]),
            ("sink", [[("sink", None, [])]]),
            ("gen 1", [[("gen", 1, [])]]),
            (f"head {BIG}", [[("head", BIG, [])]]),
            ("gen 10 | sink", [[("gen", 10, []), ("sink", None, [])]]),
            ("gen 10 ; sink", [[("gen", 10, [])], [("sink", None, [])]]),
            ("cat ; cat | cat ; cat", [[("cat", None, [])], [("cat", None, []), ("cat", None, [])], [("cat", None, [])]]),
            ("gen 5 2>&1 | cat 1>f 0<in 9>&- ; head 3 3>abcdefgh",
             [[("gen", 5, ["2>&1"]), ("cat", None, ["1>f", "0<in", "9>&-"])], [("head", 3, ["3>abcdefgh"])]]),
        ]
        for line, expected in rows:
            self.assertEqual(expected, commands_of(line))

    def test_one_to_seven_commands(self):
        for sign in (" | ", " ; "):
            for many in range(1, 8):
                found = commands_of(sign.join(["cat"] * many))
                self.assertEqual(many, sum(len(commands) for commands in found))
                self.assertEqual(1 if sign == " | " else many, len(found))
            # No line goes on behind the seventh command.
            self.assert_wrong_form(sign.join(["cat"] * 8), 13)
            self.assert_wrong_form(sign.join(["gen 1"] * 8), 20)
            self.assert_wrong_form(sign.join(["cat"] * 7) + sign.rstrip(), 13)
        self.assert_wrong_form("cat | cat ; cat | cat ; cat | cat 1>f 2>g ; cat | cat", 15)

    def test_up_to_twenty_redirections(self):
        for many in (0, 1, 19, 20):
            words = ["1>f"] * many
            self.assertEqual([[("cat", None, words), ("gen", 2, words)]], commands_of(" ".join(["cat"] + words + ["|", "gen", "2"] + words)))
        self.assert_wrong_form("cat" + " 1>f" * 21, 21)
        self.assert_wrong_form("gen 7" + " 1>f" * 21, 22)
        self.assert_wrong_form("gen 7" + " 1>f" * 22, 22)
        self.assert_wrong_form("cat | sink" + " 1>f" * 20 + " 2>&1 x", 23)
        self.assertEqual(2, len(commands_of("cat" + " 1>f" * 20 + " ; cat" + " 2>&1" * 20)))

    def test_additional_spaces_and_the_empty_string(self):
        self.assert_wrong_form("", 0)
        self.assert_wrong_form(" ", 0)
        self.assert_wrong_form(" cat", 0)
        self.assert_wrong_form("cat ", 1)
        self.assert_wrong_form("cat  ", 1)
        self.assert_wrong_form("gen ", 1)
        self.assert_wrong_form("gen  5", 1)
        self.assert_wrong_form("gen 5 ", 2)
        self.assert_wrong_form("gen 5  1>f", 2)
        self.assert_wrong_form("gen 5 1>f ", 3)
        self.assert_wrong_form("cat  | cat", 1)
        self.assert_wrong_form("cat |  cat", 2)
        self.assert_wrong_form("cat | ", 2)
        self.assert_wrong_form("cat\n", 0)
        self.assert_wrong_form("cat\n| cat", 0)

    def test_amounts(self):
        for word in ("gen", "head"):
            for amount in ("0", "00", "01", "-1", "+1", str(BIG + 1), "0" + str(BIG), str(BIG) + "0", "1.0", "1e3", "x", "1_0", "all", "None",
                           "|", ";", "1>f", "1" * 1000, "\n1", "1\n"):
                self.assert_wrong_form(f"{word} {amount}", 1)
                self.assert_wrong_form(f"cat ; {word} {amount} | cat", 3)
            for amount in (1, 9, 10, 101, BIG - 1, BIG):
                self.assertEqual([[(word, amount, [])]], commands_of(f"{word} {amount}"))
        for word in ("cat", "sink"):
            self.assert_wrong_form(f"{word} 1", 1)

    def test_signs_at_wrong_places(self):
        for line, word in (("|", 0), (";", 0), ("| cat", 0), ("cat |", 2), ("cat ;", 2), ("cat | |", 2), ("cat ; ;", 2), ("cat ; | cat", 2),
                           ("cat |cat", 1), ("cat| cat", 0), ("cat;", 0), ("gen |", 1), ("gen | cat", 1), ("cat & cat", 1), ("cat || cat", 1),
                           ("cat | cat |", 4), ("gen 1 ;", 3), ("gen 1 1>f |", 4), ("cat cat", 1), ("gen 1 gen 1", 2), ("1>f cat", 0)):
            self.assert_wrong_form(line, word)

    def test_missing_words(self):
        for line, word in (("gen", 1), ("head", 1), ("cat | gen", 3), ("cat ; head", 3), ("cat 1>f ; head", 4)):
            self.assert_wrong_form(line, word)

    def test_wrong_words(self):
        for word in ("Cat", "cats", "ca", "catt", "GEN", "wait", "pipe", "fork", "read", "all", "(", "0", "1>f"):
            self.assert_wrong_form(word, 0)
            self.assert_wrong_form("cat | " + word, 2)
        for word in ("1>", ">f", "1>&", "1>&10", "10>f", "1>&a", "1>&--", "1>>f", "1<&2", "1<&-", "1>F", "1>abcdefghi", "a>f", "1>f1", "-1>f", "1=f",
                     "1>f,", "1 > f", "1>-", "1<", "12", "f"):
            self.assert_wrong_form("cat " + word, 1)
            self.assert_wrong_form("gen 5 1>f " + word, 3)

    def test_no_string(self):
        for value in (None, True, False, 0, 1, b"cat", ["cat"], ("cat",), {}, [], (), 1.5, Unfriendly()):
            self.assert_wrong_form(value, None)

    def test_drawn_lines(self):
        chance = random.Random(111)
        for _ in range(400):
            line = drawn_line(chance)
            self.assertIsNone(first_fault(line))
            expected = [[(word, amount, words) for _, word, amount, words in commands] for commands in parts_of(line)]
            self.assertEqual(expected, commands_of(line))

    def test_drawn_lines_that_are_spoilt(self):
        chance = random.Random(112)
        seen = {}
        for _ in range(1500):
            words = drawn_line(chance).split(" ")
            for _ in range(chance.randint(1, 2)):
                at = chance.randrange(len(words) + 1)
                other = chance.choice(["gen", "cat", "head", "|", ";", "", "0", "5", "07", "1>f", "2>&1", "3>&-", "1>&", "x"] + words)
                words[at:at + chance.choice([0, 1, 1])] = [other] if chance.random() < 0.7 else []
            line = " ".join(words)
            fault = first_fault(line)
            seen[fault is None] = seen.get(fault is None, 0) + 1
            if fault is None:
                self.assertIs(list, commands_of(line).__class__)
            else:
                self.assert_wrong_form(line, fault)
        self.assertGreater(min(seen.values()), 200)


class Compiled(Shell):

    def assert_program(self, line):
        """Fails unless a program for a line has the processes, tables and waits that the document asks for."""
        program = compiled(line)
        self.assertTrue(is_program(program), line)
        commands = [command for row in parts_of(line) for command in row]
        self.assertEqual([()] + [(at,) for at in range(len(commands))], processes_of(program))
        self.assertLessEqual(max(len(body) for body in all_bodies(program).values()), 60)
        self.assert_main(program, [len(row) for row in parts_of(line)])
        tables = all_tables(program)
        at = 0
        pipes = 0
        for row in parts_of(line):
            for place, (_, word, amount, words) in enumerate(row):
                body = all_bodies(program)[(at,)]
                first = [IN if place == 0 else ("pipe", (), pipes - 1, "r"), OUT if place == len(row) - 1 else ("pipe", (), pipes, "w"), ERR]
                self.assertEqual(self.step(word, amount), body[-1])
                self.assertFalse({"write", "read", "pass", "wait", "fork", "pipe"} & {step[0] for step in body[:-1]})
                self.assertEqual(self.expected(words, first, at), tables[(at,)][len(body) - 1], line)
                at += 1
                pipes += place < len(row) - 1
        return program

    def expected(self, words, first, at):
        """The table of the command of a process with these ends at 0, 1 and 2 behind its redirections."""
        opened = [word[2:] for word in words if word[2] != "&"]
        ends = dict(zip("abc", first))
        return [end if end is None else ends[end] if end in ends else ("file", (at,), end[1], opened[end[1]])
                for end in applied(words, ["a", "b", "c"] + [None] * 7)]

    def step(self, word, amount):
        return {"gen": ("write", 1, amount), "cat": ("pass", 0, 1, None), "sink": ("read", 0, None), "head": ("pass", 0, 1, amount)}[word]

    def assert_main(self, program, sizes):
        """Fails unless the main process forks so many commands between its waits, and has no ends of pipes at a wait."""
        words = [step[0] for step in program if step[0] in ("fork", "wait")]
        expected = [word for size in sizes for word in ["fork"] * size + ["wait"]]
        self.assertIn(words, (expected, expected[:-1]))
        for index, step in enumerate(program):
            if step[0] == "wait":
                self.assertEqual([IN, OUT, ERR] + [None] * 7, all_tables(program)[()][index])
        self.assertEqual([IN, OUT, ERR] + [None] * 7, all_tables(program)[()][-1])
        self.assertFalse({"write", "read", "pass", "open"} & {step[0] for step in program})

    def test_known_lines(self):
        for line in ("cat", "gen 5", "gen 5 | sink", "gen 5 ; sink", "gen 1 | cat | cat | head 3", "gen 1 | cat ; gen 2 | cat 1>f ; cat",
                     "gen 5 | cat 2>&1 1>f ; gen 2 1>g 2>&1", "cat 3>&- 9>&- 1>&1", "gen 3 3>&1 1>&2 2>&3 3>&-", "gen 9 1>f 1>g 1>h",
                     "gen 7 5>&1 | head 2 6>&0 0<f 0>&6"):
            self.assert_program(line)

    def test_drawn_lines(self):
        chance = random.Random(113)
        seen = {}
        for _ in range(1500):
            line = drawn_line(chance, chance.choice([1, 2, 7]))
            fault = second_fault(line)
            seen[fault is None] = seen.get(fault is None, 0) + 1
            if fault is None:
                self.assert_program(line)
            else:
                assert_error(self, InvalidText, {"word": fault}, compiled, line)
            self.assertIs(list, commands_of(line).__class__)
        self.assertGreater(min(seen.values()), 300, seen)

    def test_seven_commands_with_twenty_redirections(self):
        words = " ".join(["3>&1", "4>&2", "5>a", "6<b"] * 5)
        for sign in (" | ", " ; "):
            program = self.assert_program(sign.join(f"cat {words}" for _ in range(7)))
            self.assertEqual(8, len(processes_of(program)))

    def test_closing_a_free_number_is_nothing(self):
        for number in range(3, 10):
            line = f"gen 1 {number}>&- | cat {number}>&- {number}>&2 {number}>&- {number}>&-"
            self.assert_program(line)
        line = "gen 4 1>&2 | sink 2>&- 2>&-"
        self.assert_program(line)

    def test_redirections_that_copy_a_free_number(self):
        for line, word in (("cat 1>&3", 1), ("gen 5 1>&3", 2), ("gen 5 1>f 2>&- 1>&2", 4), ("cat | cat 1>f 0>&9", 4), ("cat | gen 7 9>&8", 4),
                           ("cat 3>&3", 1), ("cat 1>&- 1>&1", 2), ("cat ; cat 3>&1 ; cat 1>&3", 6),
                           # The first one of several, of the first command that has one.
                           ("cat 3>&4 5>&6", 1), ("cat 1>f 3>&4 | cat 5>&6", 2)):
            self.assertIsNone(first_fault(line))
            self.assertEqual(word, second_fault(line))
            assert_error(self, InvalidText, {"word": word}, compiled, line)
            commands_of(line)

    def test_commands_whose_step_would_be_wrong(self):
        for line, word in (("gen 5 1>&-", 0), ("cat 0>&-", 0), ("cat 1>&-", 0), ("sink 0>&-", 0), ("head 3 0>&-", 0), ("head 3 1>&-", 0),
                           ("cat | cat 1>&0", 2), ("cat 0>&1 | cat", 0), ("cat | sink | gen 5 1>&0", 4), ("gen 2 ; cat | gen 5 1>&0", 5),
                           ("sink 0>&1 | cat", 0), ("cat | head 9 0>&2 ; cat 1>&-", 6),
                           # Behind the redirections of the same command, but ahead of those of the next one.
                           ("gen 5 1>&- 2>&9", 3), ("gen 5 1>&- | cat 2>&9", 0), ("cat | gen 5 1>&- ; cat 8>&9", 2)):
            self.assertIsNone(first_fault(line))
            self.assertEqual(word, second_fault(line))
            assert_error(self, InvalidText, {"word": word}, compiled, line)
            commands_of(line)
        # What the command does not use does not matter.
        for line in ("gen 5 0>&- 2>&-", "sink 1>&- 2>&-", "cat | gen 5 0>&-", "cat | cat 2>&0", "gen 2 2>&1 | cat"):
            self.assert_program(line)

    def test_wrong_forms_come_first(self):
        for line, word in (("cat 1>&3 x", 2), ("gen 5 1>&- | gen", 5), ("cat 1>&3 |", 3), ("cat 1>&3 | gen 0", 4)):
            self.assert_wrong_form(line, word)

    def test_results_are_new(self):
        line = "gen 5 2>&1 | cat ; sink"
        for function in (commands_of, compiled):
            first = function(line=line)
            before = repr(first)
            self.assertIs(list, first.__class__)
            for item in first:
                if isinstance(item, list):
                    item[0][-1].append("more")
                    item.clear()
                elif item[0] == "fork":
                    item[1].clear()
            first.clear()
            self.assertEqual(before, repr(function(line)))


class Meaning(Shell):

    def assert_lengths(self, lengths, line):
        """Fails unless a line is calm and leaves files of these lengths, with all capacities."""
        program = compiled(line)
        self.assertIs(True, is_calm(program), line)
        for capacity in (1, 2, 7, BIG):
            self.assertIs(False, hangs(program, capacity))
            expected = {"in": 0, "out": 0, "err": 0}
            expected.update(lengths)
            self.assertEqual(expected, file_lengths(program, capacity), line)
            self.assertEqual({("over",)}, set(last_state(program, capacity)[0]))

    def test_calm_lines(self):
        self.assert_lengths({"out": 5}, "gen 5")
        self.assert_lengths({"out": 5}, "gen 5 | cat")
        self.assert_lengths({"out": BIG}, f"gen {BIG} | cat | cat | cat | cat | cat | cat")
        self.assert_lengths({}, "gen 5 | cat | sink")
        self.assert_lengths({"f": 5}, "gen 5 | cat | cat 1>f")
        self.assert_lengths({"err": 5}, "gen 5 | cat 1>&2")
        self.assert_lengths({"err": 4, "out": 0}, "gen 4 3>&1 1>&2 2>&3 3>&-")
        self.assert_lengths({"out": 9}, "gen 5 ; gen 4")
        self.assert_lengths({"out": 4, "f": 5, "g": 0}, "gen 5 1>g 1>f ; gen 4")
        self.assert_lengths({"f": 5}, "gen 5 1>f ; gen 4 1>f")
        self.assert_lengths({"f": 7}, "gen 5 1>f ; gen 7 1>f")
        self.assert_lengths({"f": 0, "out": 0}, "cat 0<f")
        self.assert_lengths({"out": 0}, "cat | cat | sink")
        self.assert_lengths({"out": 3}, "sink ; gen 3")
        self.assert_lengths({"f": 6, "out": 6}, "gen 6 | cat 1>f ; gen 6 | cat")
        # The reader has closed the pipe, but nobody writes to it.
        self.assert_lengths({"f": 5}, "gen 5 1>f | cat")
        self.assert_lengths({"f": 5, "g": 0}, "gen 5 1>f | cat 0<g")

    def test_lines_that_are_not_calm(self):
        self.assertEqual(((), 0, "rest"), why_not_calm(compiled("gen 5 | head 3")))
        self.assertEqual(((), 0, "readers"), why_not_calm(compiled("gen 5 | gen 3")))
        self.assertEqual(((), 1, "rest"), why_not_calm(compiled("cat | sink ; gen 5 | head 3")))
        self.assertIs(True, is_calm(compiled("head 3 | sink")))

    def test_heads(self):
        chance = random.Random(114)
        for written, taken in ((1, 1), (3, 1), (3, 5), (7, 2), (20, 3)):
            for capacity in (1, 2, 5):
                for line in (f"gen {written} | head {taken} 1>f", f"gen {written} | cat | head {taken} | cat 1>f"):
                    program = compiled(line)
                    for _ in range(5):
                        machine, schedule = drawn_run(program, capacity, chance, 2000)
                        self.assertLess(len(schedule), 2000)
                        self.assertEqual(min(written, taken), sum(units for end, units in machine.written.items() if end[3] == "f"))
                        self.assertNotIn("at", {task.word for task in machine.tasks.values()})

    def test_pipelines_one_behind_the_other(self):
        # The second pipeline is forked when the first one is over.
        program = compiled("gen 3 | cat 1>f ; gen 2 | sink ; cat")
        machine, schedule = drawn_run(program, 1, random.Random(115), 500)
        self.assertTrue(max(at for at, process in enumerate(schedule) if process in ((0,), (1,)))
                        < min(at for at, process in enumerate(schedule) if process in ((2,), (3,))))
        self.assertTrue(max(at for at, process in enumerate(schedule) if process in ((2,), (3,))) < schedule.index((4,)))

    def test_positions_tell_who_has_written(self):
        program = compiled("gen 3 1>f 2>&1 | cat ; gen 4 1>f")
        self.assertEqual({IN: 0, OUT: 0, ERR: 0, ("file", (0,), 0, "f"): 3, ("file", (2,), 0, "f"): 4}, positions(program, 1))


class Heads(Shell):

    def test_borders(self):
        self.assertEqual(("over",), head_fates(3, 3, 1))
        self.assertEqual(("over",), head_fates(1, 3, 1))
        self.assertEqual(("broken", "over"), head_fates(4, 3, 1))
        self.assertEqual(("broken",), head_fates(5, 3, 1))
        self.assertEqual(("broken", "over"), head_fates(5, 3, 2))
        self.assertEqual(("broken", "over"), head_fates(2, 1, 1))
        self.assertEqual(("broken",), head_fates(3, 1, 1))
        for written, taken, capacity in ((BIG, BIG, 1), (BIG - 1, BIG, BIG)):
            self.assertEqual(("over",), head_fates(written, taken, capacity))
        self.assertEqual(("broken", "over"), head_fates(BIG, BIG - 1, 1))
        self.assertEqual(("broken",), head_fates(BIG, BIG - 2, 1))
        self.assertEqual(("broken", "over"), head_fates(BIG, 1, BIG - 1))
        self.assertEqual(("broken",), head_fates(BIG, 1, BIG - 2))
        self.assertEqual(("broken", "over"), head_fates(BIG, 1, BIG))

    def test_all_schedules_of_small_lines(self):
        for written in range(1, 6):
            for taken in range(1, 5):
                for capacity in range(1, 4):
                    states = final_states(compiled(f"gen {written} | head {taken}"), capacity)
                    fates = sorted({state[0][1][0] for state in states})
                    self.assertEqual(tuple(fates), head_fates(written, taken, capacity), (written, taken, capacity))
                    self.assertEqual({"over"}, {place[0] for state in states for place in (state[0][0], state[0][2])})

    def test_arguments(self):
        self.assertEqual(("broken",), head_fates(capacity=1, taken=1, written=9))
        for value in NO_CAPACITIES:
            assert_error(self, InvalidNumber, {}, head_fates, value, 1, 1)
            assert_error(self, InvalidNumber, {}, head_fates, value, value, value)
            assert_error(self, InvalidNumber, {}, head_fates, 1, value, 1)
            assert_error(self, InvalidNumber, {}, head_fates, 1, value, 0)
            assert_error(self, InvalidCapacity, {}, head_fates, 1, 1, value)


if __name__ == "__main__":
    unittest.main()
