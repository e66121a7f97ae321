"""A small shell: lines of commands in pipelines, and the programs that do what they say."""

from fdwires.checks import check_capacity, is_integer
from fdwires.errors import InvalidNumber, InvalidText
from fdwires.lines import pipelines_of
from fdwires.redirections import redirection_step
from fdwires.steps import FIRST_KINDS, kinds_behind, suits

# Where the main process has the reading end of the pipe behind the command before, and both ends of the next pipe.
BEFORE = 3
READING = 4
WRITING = 5


def commands_of(line):
    """The list of the pipelines of a line, each a list of tuples of a word, an amount or None, and redirections."""
    return [[(command.word, command.amount, command.redirections) for command in commands]
            for commands in pipelines_of(line)]


def compiled(line):
    """A program that does what a line says, with a process for each command."""
    program = []
    for commands in pipelines_of(line):
        for at, command in enumerate(commands):
            program.extend(forking_steps(command, at > 0, at < len(commands) - 1))
        program.append(("wait",))
    return program


def forking_steps(command, follows, leads):
    """The steps of the main process for a command, which follows another one in its pipeline, leads to one, or both."""
    kinds = list(FIRST_KINDS)
    ahead = []
    child = []
    behind = []
    if follows:
        kinds[0] = "reading"
        child.extend([("copy", BEFORE, 0), ("close", BEFORE)])
        behind.append(("close", BEFORE))
    if leads:
        kinds[1] = "writing"
        ahead.append(("pipe", READING, WRITING))
        child.extend([("copy", WRITING, 1), ("close", READING), ("close", WRITING)])
        behind.extend([("close", WRITING), ("copy", READING, BEFORE), ("close", READING)])
    child.extend(command_steps(command, kinds))
    return ahead + [("fork", child)] + behind


def command_steps(command, kinds):
    """The steps of a command on a table of these kinds: those of its redirections, then its own one."""
    steps = []
    for index, word in enumerate(command.redirections):
        step = redirection_step(word)
        if suits(step, kinds):
            steps.append(step)
        elif step[0] == "copy":
            raise InvalidText(command.first_redirection() + index)
        kinds = kinds_behind(kinds, step)
    own = own_step(command)
    if not suits(own, kinds):
        raise InvalidText(command.at)
    return steps + [own]


def own_step(command):
    """The step that a command is about."""
    if command.word == "gen":
        return ("write", 1, command.amount)
    if command.word == "sink":
        return ("read", 0, None)
    return ("pass", 0, 1, command.amount)


def check_units(value):
    """Raises an error if a value is no integer from 1 on."""
    if not is_integer(value) or value < 1:
        raise InvalidNumber("a number of units is an integer from 1 on")


def head_fates(written, taken, capacity):
    """What can become of a command that writes some units to one that takes some of them: its words, ascending."""
    check_units(written)
    check_units(taken)
    check_capacity(capacity)
    if written > taken + capacity:
        return ("broken",)
    return ("over",) if written <= taken else ("broken", "over")
