"""The errors of this package."""


class WireError(ValueError):
    """The base of all errors of this package."""


class InvalidTable(WireError):
    """A value is no table."""


class InvalidProcess(WireError):
    """A value is no process of the program."""


class InvalidIndex(WireError):
    """A value is no index that is allowed there."""


class InvalidNumber(WireError):
    """A value is no number of the kind that is needed."""


class InvalidCapacity(WireError):
    """A value is no capacity of pipes."""


class InvalidCloses(WireError):
    """A value is no closes of the program."""


class NoCalls(WireError):
    """No calls lead from the table to the goal."""


class NotCurable(WireError):
    """No closes cure the program."""


class EmptyHistory(WireError):
    """There is no call that can be undone."""


class InvalidProgram(WireError):
    """A value is no program: where its first wrong step is, None and None if it is not a list."""

    def __init__(self, process, index):
        super().__init__(f"no program: step {index} of process {process} is wrong")
        self.process = process
        self.index = index


class InvalidRedirection(WireError):
    """The item with this index is no redirection; None if there is no list of at most 40 items."""

    def __init__(self, index):
        super().__init__(f"no redirection at index {index}")
        self.index = index


class InvalidCalls(WireError):
    """The item with this index is no possible call; None if there is no list of at most 100 items."""

    def __init__(self, index):
        super().__init__(f"no possible call at index {index}")
        self.index = index


class InvalidText(WireError):
    """The word with this index does not fit; None if the argument is not a string."""

    def __init__(self, word):
        super().__init__(f"the text is wrong at word {word}")
        self.word = word


class FailingWords(WireError):
    """Words copy this number although it is free."""

    def __init__(self, number):
        super().__init__(f"number {number} is copied although it is free")
        self.number = number


class NotPossible(WireError):
    """The process with this index cannot act at its turn; None if there is no such index."""

    def __init__(self, index):
        super().__init__(f"no action is possible at index {index}")
        self.index = index


class NotCalm(WireError):
    """The program is not calm because of the pipe that this process made as its j-th one."""

    def __init__(self, process, j):
        super().__init__(f"not calm: pipe {j} of process {process}")
        self.process = process
        self.j = j


class Endless(WireError):
    """These processes pass units to one another for ever."""

    def __init__(self, processes):
        super().__init__(f"the run has no end: {processes}")
        self.processes = processes


class TooLarge(WireError):
    """Something is greater than this limit."""

    def __init__(self, limit):
        super().__init__(f"more than {limit}")
        self.limit = limit
