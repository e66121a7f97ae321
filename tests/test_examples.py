"""The examples of the document, word for word."""

import doctest
import unittest

REDIRECTIONS = '''
>>> from fdwires.redirections import applied, normal_form, same_words
>>> [normal_form(["1>f", "2>&1"])[0:2], normal_form(["1>f", "2>&1"])[2][:3], normal_form(["1>&-", "2>&1"])]
[((), (('>', 'f'),)), (('old', 0), ('new', 0), ('new', 0)), None]
>>> [same_words(["2>&1", "1>f"], ["1>f", "2>&1"]), same_words(["3>&1", "1>&2", "2>&3", "3>&-"], ["4>&2", "2>&1", "1>&4", "4>&-"])]
[False, False]
>>> applied(["3>&1", "1>&2", "2>&3"], ["tty", "a", "b", None, None, None, None, None, None, None])[:4]
['tty', 'b', 'a', 'a']
'''

MOVES = '''
>>> from fdwires.moves import after_calls, calls_between, fewest_calls, rings_of
>>> free = [None] * 6
>>> swap, more = (["in", "a", "b", None] + free, ["in", "b", "a", None] + free), (["in", "a", "b", "c"] + free, ["in", "b", "a", None] + free)
>>> [rings_of(swap[0], swap[1]), fewest_calls(swap[0], swap[1]), fewest_calls(more[0], more[1]), fewest_calls(list("abcdefghij"), list("bacdefghij"))]
[[(1, 2)], 4, 4, None]
>>> calls_between(more[0], more[1])
[('copy', 1, 3), ('copy', 2, 1), ('copy', 3, 2), ('close', 3)]
>>> [fewest_calls(["x", "x", "a", "b"] + free, ["a", "b", "x", None] + free), rings_of(["x", "x", "a", "b"] + free, ["a", "b", "x", None] + free)]
[4, []]
'''

PROGRAMS = '''
>>> from fdwires.programs import body_of, first_wrong, fork_place, processes_of
>>> child = [("copy", 3, 0), ("read", 0, None)]
>>> program = [("pipe", 3, 4), ("fork", child), ("close", 3), ("write", 4, 5), ("wait",)]
>>> [processes_of(program), body_of(program, (0,)) == child, fork_place(program, (0,)), first_wrong([("pipe", 3, 4), ("fork", [("read", 4, 1)])])]
[[(), (0,)], True, 1, ((0,), 0)]
'''


class Examples(unittest.TestCase):

    def run_block(self, name, text):
        block = doctest.DocTestParser().get_doctest(text, {}, name, name, 0)
        report = []
        result = doctest.DocTestRunner(verbose=False).run(block, out=report.append)
        self.assertEqual(0, result.failed, "".join(report))
        self.assertGreater(result.attempted, 1)

    def test_redirections(self):
        self.run_block("redirections", REDIRECTIONS)

    def test_moves(self):
        self.run_block("moves", MOVES)

    def test_programs(self):
        self.run_block("programs", PROGRAMS)


if __name__ == "__main__":
    unittest.main()
