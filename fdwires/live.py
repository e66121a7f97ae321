"""Live systems: runs that go on action by action, and can be undone."""

from fdwires.calm import check_calm
from fdwires.checks import DESCRIPTORS, check_capacity
from fdwires.errors import EmptyHistory, NotPossible
from fdwires.programs import check_process, check_program, copied_body
from fdwires.states import able_in, first_state, is_running, replaced, state_behind, states_along
from fdwires.wiring import Wiring

MOST_OF_ONE = 100
MOST_OF_ALL = 400


class System:
    """A run of a program.

    The numbers of the actions of all processes are kept in all kinds of systems, and shown by those that count. past
    has the states and these numbers ahead of each call that can be undone.
    """

    MOST = 8

    def __init__(self, program, capacity):
        check_program(program)
        check_capacity(capacity)
        self._program = copied_body(program)
        self._capacity = capacity
        self._wiring = Wiring(self._program)
        self._state = first_state(self._wiring)
        self._actions = tuple([0 for _ in self._wiring.processes])
        self._past = []

    @classmethod
    def begun(cls, program, capacity):
        """A system of the same class at its beginning."""
        return cls(program, capacity)

    @property
    def state(self):
        """The state."""
        return self._state

    @property
    def able(self):
        """The ascending list of the processes that can act."""
        return able_in(self._wiring, self._capacity, self._state)

    def __len__(self):
        return len(self._past)

    def __eq__(self, other):
        if not isinstance(other, System) or self.__class__.__name__ != other.__class__.__name__:
            return False
        return (self._program, self._capacity, self._state) == (other._program, other._capacity, other._state)

    def act(self, process):
        """Does an action of a process; returns the number of the actions."""
        return self.done_by(process, 1)

    def go_on(self, process):
        """Does actions of a process until it cannot act or has done a hundred; returns the number of the actions."""
        return self.done_by(process, MOST_OF_ONE)

    def done_by(self, process, most):
        """Does actions of a process, at most so many; returns their number."""
        check_process(self._wiring.order, process)
        before = (self._state, self._actions)
        many = 0
        while many < most and self.moves(self._wiring.order[process]):
            many += 1
        if many == 0:
            raise NotPossible(None)
        self._past.append(before)
        return many

    def finish(self):
        """Does actions, always of the least process that can act, at most 400; returns their number."""
        before = (self._state, self._actions)
        many = 0
        while many < MOST_OF_ALL and self.least_moves():
            many += 1
        self._past.append(before)
        return many

    def least_moves(self):
        """Does an action of the least process that can act; returns whether there is one."""
        for at in range(len(self._wiring.processes)):
            if self.moves(at):
                return True
        return False

    def moves(self, at):
        """Does an action of the process with a number; returns whether it can act."""
        behind = state_behind(self._wiring, self._capacity, self._state, at)
        if behind is None:
            return False
        self._state = behind
        self._actions = replaced(self._actions, at, self._actions[at] + 1)
        return True

    def undo(self):
        """Reverts the last call that is not reverted."""
        if len(self._past) == 0:
            raise EmptyHistory("there is nothing to undo")
        self._state, self._actions = self._past.pop()

    def tried(self, *processes):
        """The state behind some more actions; the system stays as it is."""
        states = states_along(self._wiring, self._capacity, self._state, processes)
        if len(states) <= len(processes):
            raise NotPossible(len(states) - 1)
        return states[-1]

    def table(self, process):
        """The table of a process ahead of its next step, ten times None if it is not running."""
        check_process(self._wiring.order, process)
        at = self._wiring.order[process]
        places, _ = self._state
        if not is_running(places, at):
            return [None for _ in range(DESCRIPTORS)]
        return list(self._wiring.tables[at][places[at][1]])

    def twin(self):
        """An independent system of the same class, in the same state, with the same calls to undo."""
        other = self.begun(self._program, self._capacity)
        other._state = self._state
        other._actions = self._actions
        other._past = list(self._past)
        return other

    def described(self):
        """A list of texts about the numbers of the processes and of those that are running."""
        places, _ = self._state
        running = [at for at in range(len(places)) if is_running(places, at)]
        return [f"processes {len(places)}", f"running {len(running)}"]


class CalmSystem(System):
    """A run of a calm program."""

    def __init__(self, program, capacity):
        super().__init__(program, capacity)
        check_calm(self._wiring)


class CountingSystem(System):
    """A run that tells how many actions each process has done."""

    def __init__(self, program, capacity):
        super().__init__(program, capacity)

    @property
    def counts(self):
        """A dict from all processes to the numbers of their actions that are not reverted."""
        return {process: many for process, many in zip(self._wiring.processes, self._actions)}

    def described(self):
        """A list of texts, the last one about the number of all actions."""
        return super().described() + [f"actions {sum(self._actions)}"]


class CalmCountingSystem(CalmSystem, CountingSystem):
    """A run of a calm program that tells how many actions each process has done."""

    def __init__(self, program, capacity):
        super().__init__(program, capacity)
