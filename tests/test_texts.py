"""Texts of programs: [19]."""

import copy
import random
import re
import unittest

from drawn import drawn_calm, drawn_program, scaled
from fdwires.errors import InvalidProgram, InvalidText
from fdwires.texts import format_program, listing, parse_program
from support import NO_LISTS, Unfriendly, assert_error

BIG = 10 ** 30

# Each program has one line for each of its texts and listings.
PAIRS = [
    ([], "", []),
    ([("wait",)], "wait", ["wait"]),
    ([("pipe", 3, 4)], "pipe 3 4", ["pipe 3 4"]),
    ([("pipe", 0, 9)], "pipe 0 9", ["pipe 0 9"]),
    ([("open", 5, "f")], "open 5 f", ["open 5 f"]),
    ([("open", 0, "all")], "open 0 all", ["open 0 all"]),
    ([("open", 9, "abcdefgh")], "open 9 abcdefgh", ["open 9 abcdefgh"]),
    ([("open", 9, "fork")], "open 9 fork", ["open 9 fork"]),
    ([("copy", 0, 9)], "copy 0 9", ["copy 0 9"]),
    ([("close", 2)], "close 2", ["close 2"]),
    ([("write", 1, 5)], "write 1 5", ["write 1 5"]),
    ([("write", 1, BIG)], "write 1 1" + "0" * 30, ["write 1 1" + "0" * 30]),
    ([("read", 0, 1)], "read 0 1", ["read 0 1"]),
    ([("read", 0, None)], "read 0 all", ["read 0 all"]),
    ([("read", 0, BIG - 1)], "read 0 " + "9" * 30, ["read 0 " + "9" * 30]),
    ([("pass", 0, 1, 120)], "pass 0 1 120", ["pass 0 1 120"]),
    ([("pass", 0, 1, None)], "pass 0 1 all", ["pass 0 1 all"]),
    ([("fork", [])], "fork ( )", ["fork"]),
    ([("fork", [("wait",)])], "fork ( wait )", ["fork", "  wait"]),
    ([("fork", []), ("fork", [])], "fork ( ) fork ( )", ["fork", "fork"]),
    ([("fork", [("fork", [("fork", [("fork", [])])]), ("wait",)]), ("close", 0)],
     "fork ( fork ( fork ( fork ( ) ) ) wait ) close 0",
     ["fork", "  fork", "    fork", "      fork", "  wait", "close 0"]),
    ([("pipe", 3, 4), ("fork", [("close", 4), ("fork", [("read", 3, None)]), ("wait",)]), ("write", 4, 7),
      ("fork", [("pass", 3, 1, 2), ("fork", [("fork", [("open", 1, "g"), ("write", 1, 3)])])]), ("wait",)],
     "pipe 3 4 fork ( close 4 fork ( read 3 all ) wait ) write 4 7 "
     "fork ( pass 3 1 2 fork ( fork ( open 1 g write 1 3 ) ) ) wait",
     ["pipe 3 4", "fork", "  close 4", "  fork", "    read 3 all", "  wait", "write 4 7", "fork", "  pass 3 1 2",
      "  fork", "    fork", "      open 1 g", "      write 1 3", "wait"]),
]

# Texts that are wrong, and their first wrong words.
WRONG = [
    (" ", 0), ("  ", 0), (" wait", 0), ("wait ", 1), ("wait  wait", 1), ("wait wait ", 2), ("pipe  3 4", 1),
    ("pipe 3 4 ", 3), ("fork ( ", 2), ("fork (  )", 2), ("fork  ( )", 1), ("fork ( ) ", 3), ("read 0 all ", 3),
    ("\n", 0), ("wait\n", 0), ("wait\nwait", 0), ("close 0\n", 1), ("wait \n wait", 1), ("open 0 f\n", 2),
    ("Wait", 0), ("WAIT", 0), ("waits", 0), ("wai", 0), ("3", 0), ("all", 0), ("none", 0), ("done", 0), ("(", 0),
    (")", 0), ("wait )", 1), ("wait (", 1), ("fork )", 1), ("fork wait", 1), ("fork fork", 1), ("fork ( ) )", 3),
    ("fork ( ( )", 2), ("fork ( wait ) ) wait", 4), ("fork () wait", 1), ("fork( )", 0), ("fork ( wait)", 2),
    ("(fork ( ) )", 0), ("pipe ( 3 4 )", 1), ("wait ( )", 1), ("fork ( 3 )", 2), ("fork [ ]", 1),
    ("fork", 1), ("wait fork", 2), ("fork (", 2), ("fork ( wait", 3), ("fork ( fork ( )", 5), ("fork ( fork ( wait )", 6),
    ("pipe", 1), ("pipe 3", 2), ("wait pipe 3", 3), ("open", 1), ("open 3", 2), ("copy", 1), ("copy 0", 2),
    ("close", 1), ("write", 1), ("write 1", 2), ("read", 1), ("read 0", 2), ("pass", 1), ("pass 0", 2), ("pass 0 1", 3),
    ("fork ( pass 0 1", 5), ("fork ( close", 3), ("fork ( close )", 3), ("fork ( read 0 )", 4), ("pipe 3 wait", 2),
    ("wait 3", 1), ("close 0 1", 2), ("pipe 3 4 5", 3), ("open 3 f g", 3), ("read 0 1 2", 3), ("pass 0 1 2 3", 4),
    ("close 10", 1), ("close -1", 1), ("close +1", 1), ("close 00", 1), ("close 01", 1), ("close a", 1), ("close all", 1),
    ("close 1.0", 1), ("close None", 1), ("close 1_0", 1), ("copy 0 10", 2), ("copy 10 0", 1), ("pipe 3 a", 2),
    ("pipe 10 4", 1), ("pipe a 4", 1), ("pipe 3 10", 2), ("open 10 f", 1), ("open f f", 1), ("open 3 3", 2),
    ("open 3 F", 2), ("open 3 aB", 2), ("open 3 abcdefghi", 2), ("open 3 a1", 2), ("open 3 a_", 2), ("open 3 ", 2),
    ("open 3 (", 2), ("open 3 10", 2), ("write 1 0", 2), ("write 1 00", 2), ("write 1 01", 2), ("write 1 -1", 2),
    ("write 1 +1", 2), ("write 1 1.0", 2), ("write 1 1e5", 2), ("write 1 all", 2), ("write 1 All", 2), ("write 1 f", 2),
    ("write 1 None", 2), ("write 1 1" + "0" * 29 + "1", 2), ("write 1 " + "9" * 31, 2), ("write 1 1" + "0" * 31, 2),
    ("write 1 0" + "9" * 30, 2), ("write 1 0" + "9" * 29, 2), ("write 1 " + "9" * 1900, 2), ("write all 1", 1),
    ("write 10 1", 1), ("read 0 0", 2), ("read 0 ALL", 2), ("read 0 alls", 2), ("read 0 al", 2), ("read 0 none", 2),
    ("read 0 01", 2), ("read 0 -5", 2), ("read 0 1" + "0" * 29 + "1", 2), ("read all all", 1), ("pass 0 1 0", 3),
    ("pass 0 1 a", 3), ("pass 0 all 1", 2), ("pass all 1 1", 1), ("pass 0 1 1" + "0" * 29 + "1", 3), ("pass 0 10 1", 2),
    ("write 1 \u0665", 2), ("close \u0663", 1), ("write 1 1\u00b2", 2), ("open 3 \u00e4", 2), ("wait\u00a0", 0),
    ("wait\t", 0), ("wait\twait", 0),
]

# Texts of the right form, and the first wrong steps of what they stand for.
WRONG_PROGRAMS = [
    ("pipe 3 3", (), 0), ("wait pipe 0 0", (), 1), ("close 3", (), 0), ("copy 3 4", (), 0), ("write 3 1", (), 0),
    ("read 9 all", (), 0), ("pass 0 5 all", (), 0), ("pass 5 0 1", (), 0), ("pipe 3 4 write 3 1", (), 1),
    ("pipe 3 4 read 4 1", (), 1), ("fork ( close 3 )", (0,), 0), ("wait fork ( wait fork ( wait wait close 5 ) )", (0, 0), 2),
    ("fork ( ) " * 7 + "fork ( )", (), 7), ("fork ( fork ( fork ( fork ( fork ( ) ) ) ) )", (0, 0, 0, 0), 0),
    ("wait " * 60 + "wait", (), 60), ("fork ( " * 280 + ") " * 279 + ")", (0, 0, 0, 0), 0),
]


def second_first_wrong(text):
    """The index of the first wrong word of a text, None if it is right: told by a list of what can come next."""
    number, units = "[0-9]", "([1-9][0-9]{0,29}|10{30})"
    name, rest = "[a-z]{1,8}", "([1-9][0-9]{0,29}|10{30}|all)"
    parts = {"pipe": [number, number], "open": [number, name], "copy": [number, number], "close": [number],
             "fork": ["[(]", "body"], "wait": [], "write": [number, units], "read": [number, rest],
             "pass": [number, number, rest]}
    coming = []
    for index, word in enumerate([] if text == "" else text.split(" ")):
        if coming and coming[0] != "body":
            if not re.fullmatch(coming.pop(0), word):
                return index
        elif word == ")" and coming:
            coming.pop(0)
        elif word in parts:
            coming = parts[word] + coming
        else:
            return index
    return len(text.split(" ")) if coming else None


class Texts(unittest.TestCase):

    def assert_wrong(self, text, word):
        assert_error(self, InvalidText, {"word": word}, parse_program, text)

    def judge(self, text):
        """Parses a text that can be wrong in any way, and returns what is wrong with it."""
        wrong = second_first_wrong(text)
        if wrong is not None:
            self.assert_wrong(text, wrong)
            return "text"
        try:
            program = parse_program(text)
        except InvalidProgram:
            return "program"
        self.assertEqual(text, format_program(program))
        return "nothing"


class Forms(Texts):

    def test_programs_as_texts(self):
        for program, text, _ in PAIRS:
            self.assertEqual(text, format_program(program))
            self.assertIs(str, format_program(program).__class__)

    def test_texts_as_programs(self):
        for program, text, _ in PAIRS:
            self.assertEqual(program, parse_program(text))
            self.assertEqual(repr(program), repr(parse_program(text)))

    def test_listings(self):
        for program, _, lines in PAIRS:
            self.assertEqual(lines, listing(program))

    def test_empty(self):
        self.assertEqual("", format_program([]))
        self.assertEqual([], parse_program(""))
        self.assertEqual([], listing([]))

    def test_by_name(self):
        self.assertEqual("wait", format_program(program=[("wait",)]))
        self.assertEqual(["wait"], listing(program=[("wait",)]))
        self.assertEqual([("wait",)], parse_program(text="wait"))

    def test_words_that_mean_several_things(self):
        self.assertEqual([("open", 3, "all"), ("read", 3, None), ("open", 4, "pipe"), ("open", 5, "wait")],
                         parse_program("open 3 all read 3 all open 4 pipe open 5 wait"))
        self.assertEqual([("write", 1, 1), ("write", 1, 10), ("write", 1, 9)], parse_program("write 1 1 write 1 10 write 1 9"))

    def test_amounts(self):
        for units in (1, 9, 10, 11, 99, 100, 2 ** 64, BIG - 1, BIG):
            for step in (("write", 1, units), ("read", 0, units), ("pass", 0, 1, units)):
                self.assertEqual([step], parse_program(format_program([step])))

    def test_each_number(self):
        for number in range(10):
            for step in (("open", number, "f"), ("copy", 0, number), ("pipe", number, (number + 1) % 10)):
                self.assertEqual([step], parse_program(format_program([step])))

    def test_each_letter(self):
        for letter in "abcdefghijklmnopqrstuvwxyz":
            for name in (letter, letter * 8, "a" + letter):
                self.assertEqual([("open", 3, name)], parse_program("open 3 " + name))

    def test_drawn_programs_put_into_texts_and_read_back(self):
        chance = random.Random(41)
        for turn in range(400):
            program = drawn_program(chance, 12, 8) if turn % 2 else scaled(drawn_calm(chance), 10 ** 29)
            text = format_program(program)
            self.assertEqual(program, parse_program(text))
            self.assertEqual(text, format_program(parse_program(text)))
            self.assertIsNone(second_first_wrong(text))

    def test_listings_of_drawn_programs(self):
        chance = random.Random(42)
        for _ in range(200):
            program = drawn_program(chance, 12, 6)
            words = format_program(program).split(" ")
            lines = listing(program)
            self.assertEqual([word for word in words if word not in ("(", ")")], " ".join(lines).split())
            self.assertEqual(second_listing(program), lines)


def second_listing(program):
    """The lines of a program, told from its text by the brackets that are open."""
    lines = []
    depth = 0
    for word in format_program(program).split(" ") if program else []:
        if word in ("(", ")"):
            depth += 1 if word == "(" else -1
        elif word in ("pipe", "open", "copy", "close", "fork", "wait", "write", "read", "pass"):
            lines.append("  " * depth + word)
        else:
            lines[-1] += " " + word
    return lines


class InvalidTexts(Texts):

    def test_first_wrong_words(self):
        for text, word in WRONG:
            self.assert_wrong(text, word)
            self.assert_wrong("wait " + text, word + 1)
            self.assert_wrong("fork ( fork ( ) wait ) " + text, word + 7)
            if ")" not in text:
                self.assert_wrong("fork ( fork ( " + text, word + 4)

    def test_the_first_one_of_several(self):
        self.assert_wrong("wait what where", 1)
        self.assert_wrong("pipe 3 x pipe y", 2)
        self.assert_wrong("fork ( close 10", 3)
        self.assert_wrong("close 10 )", 1)

    def test_no_strings(self):
        for value in (None, True, 0, 1, (), ("wait",), [], ["wait"], [("wait",)], {}, b"", b"wait", 1.5, Unfriendly()):
            self.assert_wrong(value, None)

    def test_spoilt_texts(self):
        chance = random.Random(43)
        seen = {"text": 0, "program": 0, "nothing": 0}
        words_there = ["wait", "fork", "(", ")", "all", "close", "pipe", "read", "write", "3", "0", "10", "f", "", "-1"]
        for _ in range(3000):
            words = format_program(drawn_program(chance, 12, 4)).split(" ")
            at, other = chance.randrange(len(words)), chance.randrange(len(words))
            way = chance.randrange(6)
            if way == 0:
                del words[at]
            elif way == 1:
                words.insert(chance.randint(0, len(words)), chance.choice(words_there))
            elif way == 2:
                words[at], words[other] = words[other], words[at]
            elif way == 3:
                words.insert(at, words[at])
            elif way == 4:
                words = words[:at]
            else:
                words[at] = chance.choice(words_there)
            seen[self.judge(" ".join(words))] += 1
        self.assertGreater(min(seen.values()), 60, seen)

    def test_additional_spaces_anywhere(self):
        text = "pipe 3 4 fork ( close 4 read 3 all ) wait"
        words = text.split(" ")
        for at in range(len(words) + 1):
            self.assert_wrong(" ".join(words[:at] + [""] + words[at:]), at)

    def test_words_left_out_at_the_end(self):
        text = "pipe 3 4 fork ( close 4 read 3 all )"
        words = text.split(" ")
        complete = (0, 3, len(words))
        for many in range(len(words) + 1):
            part = " ".join(words[:many])
            if many in complete:
                self.assertEqual(part, format_program(parse_program(part)))
            else:
                self.assert_wrong(part, many)

    def test_many_brackets(self):
        for many in (50, 284, 1500):
            self.assert_wrong(" ".join(["fork ("] * many), 2 * many)
            self.assert_wrong(" ".join(["fork ("] * many + ["x"]), 2 * many)
            self.assert_wrong(" ".join(["fork ("] * many + [")"] * (many + 1)), 3 * many)
            assert_error(self, InvalidProgram, {"process": (0, 0, 0, 0), "index": 0}, parse_program,
                         " ".join(["fork ("] * many + [")"] * many))


class InvalidPrograms(Texts):

    def test_right_forms_of_wrong_programs(self):
        for text, process, index in WRONG_PROGRAMS:
            assert_error(self, InvalidProgram, {"process": process, "index": index}, parse_program, text)

    def test_wrong_texts_come_first(self):
        for text, _, _ in WRONG_PROGRAMS:
            many = len(text.split(" "))
            self.assert_wrong(text + " )", many)
            self.assert_wrong(text + " ", many)
            self.assert_wrong(text + " close", many + 1)

    def test_texts_and_listings_of_no_programs(self):
        for function in (format_program, listing):
            for value in NO_LISTS + (Unfriendly(),):
                assert_error(self, InvalidProgram, {"process": None, "index": None}, function, value)
            for value, process, index in (
                    ([("close", 3)], (), 0), ([("wait",), ["wait"]], (), 1), ([("fork", [("close", True)])], (0,), 0),
                    ([("write", 1, 0)], (), 0), ([("write", 1, True)], (), 0), ([("fork", ())], (), 0)):
                assert_error(self, InvalidProgram, {"process": process, "index": index}, function, value)


class NewResults(Texts):

    def test_arguments_stay(self):
        for program, _, _ in PAIRS:
            before = copy.deepcopy(program)
            format_program(program)
            listing(program).append("spoilt")
            self.assertEqual(before, program)
            self.assertEqual(listing(before), listing(program))

    def test_parsed_programs_have_their_own_bodies(self):
        text = "fork ( fork ( wait ) fork ( wait ) ) fork ( wait )"
        program = parse_program(text)
        body = program[0][1]
        for inner in (body[0][1], body[1][1], program[1][1], body, program):
            inner.append(("close", 0))
        self.assertEqual("fork ( fork ( wait close 0 ) fork ( wait close 0 ) close 0 ) fork ( wait close 0 ) close 0",
                         format_program(program))
        self.assertEqual(text, format_program(parse_program(text)))
        parse_program("").append("spoilt")
        self.assertEqual([], parse_program(""))


if __name__ == "__main__":
    unittest.main()
