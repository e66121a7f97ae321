"""The examples of the document, word for word."""

import doctest
import unittest

REDIRECTIONS = '''
>>> from fdwires.redirections import applied, normal_form, same_words
>>> [normal_form(["1>f", "2>&1"])[0:2], normal_form(["1>f", "2>&1"])[2][:3], normal_form(["1>&-", "2>&1"])]
[((), (('>', 'f'),)), (('old', 0), ('new', 0), ('new', 0)), None]
>>> [same_words(["2>&1", "1>f"], ["1>f", "2>&1"]), same_words(["3>&1", "1>&2", "2>&3", "3>&-"], ["4>&2", "2>&1", "1>&4", "4>&-"])]
[False, False]
>>> applied(["3>&1", "1>&2", "2>&3"], ["tty", "a", "b", None, None, None, None, None, None, None])[:4]
['tty', 'b', 'a', 'a']
'''

MOVES = '''
>>> from fdwires.moves import after_calls, calls_between, fewest_calls, rings_of
>>> free = [None] * 6
>>> swap, more = (["in", "a", "b", None] + free, ["in", "b", "a", None] + free), (["in", "a", "b", "c"] + free, ["in", "b", "a", None] + free)
>>> [rings_of(swap[0], swap[1]), fewest_calls(swap[0], swap[1]), fewest_calls(more[0], more[1]), fewest_calls(list("abcdefghij"), list("bacdefghij"))]
[[(1, 2)], 4, 4, None]
>>> calls_between(more[0], more[1])
[('copy', 1, 3), ('copy', 2, 1), ('copy', 3, 2), ('close', 3)]
>>> [fewest_calls(["x", "x", "a", "b"] + free, ["a", "b", "x", None] + free), rings_of(["x", "x", "a", "b"] + free, ["a", "b", "x", None] + free)]
[4, []]
'''

PROGRAMS = '''
>>> from fdwires.programs import body_of, first_wrong, fork_place, processes_of
>>> child = [("copy", 3, 0), ("read", 0, None)]
>>> program = [("pipe", 3, 4), ("fork", child), ("close", 3), ("write", 4, 5), ("wait",)]
>>> [processes_of(program), body_of(program, (0,)) == child, fork_place(program, (0,)), first_wrong([("pipe", 3, 4), ("fork", [("read", 4, 1)])])]
[[(), (0,)], True, 1, ((0,), 0)]
'''

TEXTS = '''
>>> from fdwires.texts import format_program, listing, parse_program
>>> program = [("pipe", 3, 4), ("fork", [("read", 3, None)]), ("wait",)]
>>> [format_program(program), parse_program("write 1 5") == [("write", 1, 5)], listing(program)]
['pipe 3 4 fork ( read 3 all ) wait', True, ['pipe 3 4', 'fork', '  read 3 all', 'wait']]
'''

ENDS = '''
>>> from fdwires.ends import holders, pipes_of, readers_of, table_at, writers_of
>>> program = [("pipe", 3, 4), ("fork", [("copy", 3, 0), ("read", 0, None)]), ("close", 3), ("write", 4, 5), ("wait",)]
>>> [table_at(program, (0,), 1)[0], pipes_of(program), writers_of(program, (), 0), readers_of(program, (), 0)]
[('pipe', (), 0, 'r'), [((), 0)], [()], [(0,)]]
>>> holders(program, ("pipe", (), 0, "w"))
[((), 4, 1, 5), ((0,), 4, 0, 2)]
'''

RUNS = '''
>>> from fdwires.runs import able_after, after_schedule, final_states
>>> program = [("pipe", 3, 4), ("fork", [("close", 4), ("read", 3, None)]), ("close", 3), ("write", 4, 1)]
>>> [able_after(program, 1, [(), ()]), after_schedule(program, 1, [(), (), ()])]
[[(), (0,)], ((('at', 3, 0), ('at', 0, 0)), (0,))]
>>> final_states(program, 1)
[((('over',), ('over',)), (0,))]
>>> early = [("pipe", 3, 4), ("fork", [("close", 4), ("read", 3, 1)]), ("close", 3), ("write", 4, 2)]
>>> [final_states(early, 1), final_states(early, 2)]
[[((('broken',), ('over',)), (0,))], [((('broken',), ('over',)), (0,)), ((('over',), ('over',)), (1,))]]
'''

CALM = '''
>>> from fdwires.calm import file_lengths, is_calm, last_state, moved_units, why_not_calm
>>> relay = [("pipe", 3, 4), ("fork", [("close", 4), ("pass", 3, 1, None)]), ("close", 3), ("write", 4, 10 ** 30), ("close", 4), ("wait",)]
>>> [is_calm(relay), last_state(relay, 1)[0], moved_units(relay, 1, (0,), 1) == 10 ** 30, file_lengths(relay, 7)["out"] == 10 ** 30]
[True, (('over',), ('over',)), True, True]
>>> two = [("open", 1, "f"), ("open", 2, "f"), ("write", 1, 5), ("write", 2, 3)]
>>> [file_lengths(two, 1)["f"], file_lengths([("open", 1, "f"), ("copy", 1, 2), ("write", 1, 5), ("write", 2, 3)], 1)["f"]]
[5, 8]
>>> why_not_calm([("pipe", 3, 4), ("write", 4, 1), ("read", 3, 1)])
((), 0, 'rest')
'''

HANGS = '''
>>> from fdwires.hangs import hangs, ring_in, safe_capacity, stuck, waits_for
>>> own = [("pipe", 3, 4), ("write", 4, 2), ("read", 3, None)]
>>> [hangs(own, 1), stuck(own, 1), stuck(own, 2), waits_for(own, 2, ()), ring_in(own, 2), safe_capacity(own)]
[True, [((), 1)], [((), 2)], [()], [()], None]
>>> fixed = [("pipe", 3, 4), ("write", 4, 2), ("close", 4), ("read", 3, None)]
>>> [hangs(fixed, 1), hangs(fixed, 2), safe_capacity(fixed)]
[True, False, 2]
>>> idle = [("pipe", 3, 4), ("fork", [("wait",), ("read", 3, None)]), ("close", 3), ("close", 4), ("wait",)]
>>> [stuck(idle, 1), waits_for(idle, 1, ()), ring_in(idle, 1)]
[[((), 4), ((0,), 1)], [(0,)], [(0,)]]
'''

CURES = '''
>>> from fdwires.cures import dead_places, fewest_closes, needed_places, with_closes
>>> own = [("pipe", 3, 4), ("write", 4, 2), ("read", 3, None)]
>>> [dead_places(own), fewest_closes(own, 2), with_closes(own, [((), 2, 4)])]
[[((), 2, 4)], [((), 2, 4)], [('pipe', 3, 4), ('write', 4, 2), ('close', 4), ('read', 3, None)]]
>>> program = [("pipe", 3, 4), ("fork", [("read", 3, None)]), ("write", 4, 5), ("wait",)]
>>> [dead_places(program), needed_places(program, 9)]
[[((), 3, 4), ((0,), 0, 4)], [((), 3, 4), ((0,), 0, 4)]]
'''

SHELL = '''
>>> from fdwires.shell import commands_of, compiled, head_fates
>>> from fdwires.calm import file_lengths, is_calm
>>> line = "gen 5 | cat 2>&1 1>f ; gen 2 1>g 2>&1"
>>> [commands_of(line), is_calm(compiled(line)), file_lengths(compiled(line), 1)]
[[[('gen', 5, []), ('cat', None, ['2>&1', '1>f'])], [('gen', 2, ['1>g', '2>&1'])]], True, {'err': 0, 'f': 5, 'g': 2, 'in': 0, 'out': 0}]
>>> [head_fates(6, 3, 2), head_fates(5, 3, 2), head_fates(3, 3, 2)]
[('broken',), ('broken', 'over'), ('over',)]
'''

LIVE = '''
>>> from fdwires.live import CalmCountingSystem, System
>>> program = [("pipe", 3, 4), ("fork", [("close", 4), ("read", 3, None)]), ("close", 3), ("write", 4, 1)]
>>> system = System(program, 1)
>>> [system.act(()), system.go_on(()), system.state, system.able, system.tried((0,), (0,))[0]]
[1, 3, ((('over',), ('at', 0, 0)), (1,)), [(0,)], (('over',), ('at', 1, 1))]
>>> [system.undo(), system.state[0], len(system)]
[None, (('at', 1, 0), ('new',)), 1]
>>> other = CalmCountingSystem(program, 1)
>>> [other.finish(), other.counts, other.described()]
[7, {(): 4, (0,): 3}, ['processes 2', 'running 0', 'actions 7']]
'''


class Examples(unittest.TestCase):

    def run_block(self, name, text):
        block = doctest.DocTestParser().get_doctest(text, {}, name, name, 0)
        report = []
        result = doctest.DocTestRunner(verbose=False).run(block, out=report.append)
        self.assertEqual(0, result.failed, "".join(report))
        self.assertGreater(result.attempted, 1)

    def test_redirections(self):
        self.run_block("redirections", REDIRECTIONS)

    def test_moves(self):
        self.run_block("moves", MOVES)

    def test_programs(self):
        self.run_block("programs", PROGRAMS)

    def test_texts(self):
        self.run_block("texts", TEXTS)

    def test_ends(self):
        self.run_block("ends", ENDS)

    def test_runs(self):
        self.run_block("runs", RUNS)

    def test_calm(self):
        self.run_block("calm", CALM)

    def test_hangs(self):
        self.run_block("hangs", HANGS)

    def test_cures(self):
        self.run_block("cures", CURES)

    def test_shell(self):
        self.run_block("shell", SHELL)

    def test_live(self):
        self.run_block("live", LIVE)


if __name__ == "__main__":
    unittest.main()
