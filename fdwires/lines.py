"""Lines of the small shell: their words, and the commands that they have."""

from fdwires.errors import InvalidText
from fdwires.redirections import redirection_step
from fdwires.steps import is_part
from fdwires.texts import parsed_number

MOST_COMMANDS = 7
MOST_REDIRECTIONS = 20
SEPARATORS = ("|", ";")
WITH_AMOUNT = ("gen", "head")
WITHOUT_AMOUNT = ("cat", "sink")


class Command:
    """A command: the index of its first word in the line, this word, its amount or None, and its redirections."""

    def __init__(self, at, word, amount, redirections):
        self.at = at
        self.word = word
        self.amount = amount
        self.redirections = redirections

    def first_redirection(self):
        """The index of the word at which its redirections begin."""
        return self.at + (1 if self.amount is None else 2)

    def behind(self):
        """The index of the word behind it."""
        return self.first_redirection() + len(self.redirections)


def pipelines_of(line):
    """The list of the pipelines of a line, lists of commands; raises an error if there is no line."""
    if not isinstance(line, str):
        raise InvalidText(None)
    words = line.split(" ")
    command = command_at(words, 0)
    pipelines = [[command]]
    many = 1
    while command.behind() < len(words):
        at = command.behind()
        # Behind the last command that it can have no line goes on.
        if words[at] not in SEPARATORS or many == MOST_COMMANDS:
            raise InvalidText(at)
        command = command_at(words, at + 1)
        many += 1
        if words[at] == "|":
            pipelines[-1].append(command)
        else:
            pipelines.append([command])
    return pipelines


def command_at(words, at):
    """The command that begins with the word at this place."""
    word = word_at(words, at)
    if word in WITHOUT_AMOUNT:
        return Command(at, word, None, redirections_at(words, at + 1))
    if word not in WITH_AMOUNT:
        raise InvalidText(at)
    amount = parsed_number(word_at(words, at + 1))
    if not is_part("units", amount):
        raise InvalidText(at + 1)
    return Command(at, word, amount, redirections_at(words, at + 2))


def word_at(words, at):
    """The word at this place; raises an error if there is none."""
    if at == len(words):
        raise InvalidText(at)
    return words[at]


def redirections_at(words, at):
    """The list of the redirections that begin at this place, as many as a command can have at the most."""
    found = []
    for word in words[at:at + MOST_REDIRECTIONS]:
        if redirection_step(word) is None:
            return found
        found.append(word)
    return found
