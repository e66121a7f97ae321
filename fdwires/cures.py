"""Cures: where a calm program that hangs has to close ends, and the fewest closes with which it does not hang."""

from itertools import combinations

from fdwires.calm import check_calm
from fdwires.closes import is_closes, places_of, program_with
from fdwires.errors import InvalidCloses, NotCurable, TooLarge
from fdwires.hangs import run_hangs
from fdwires.programs import MOST_STEPS, process_table
from fdwires.wiring import Wiring, wiring_for, wiring_of

# The fewest closes are found by trying all sets of the places that are not needed.
MOST_TRIED = 8


class Cases:
    """A calm program and its places, with the capacity of its runs; raises an error if one of them has no end.

    hung tells whether it hangs as it is, and hopeless whether it hangs with all closes. Where neither run goes on for
    ever, none with some of the closes does.
    """

    def __init__(self, program, capacity):
        self.program = program
        self.capacity = capacity
        self.wiring = wiring_for(program, capacity)
        check_calm(self.wiring)
        self.places = places_of(self.wiring)
        self.hung = run_hangs(self.wiring, capacity)
        self.hopeless = self.hangs_with(self.places)

    def hangs_with(self, closes):
        """Whether the program hangs with closes; no wrong steps come into it, but a body can have more than 60."""
        return run_hangs(Wiring(program_with(self.program, closes)), self.capacity)

    def needed(self):
        """The ascending list of the needed places; raises an error if there is no cure."""
        if self.hopeless:
            raise NotCurable("the program hangs with all closes")
        # Closes never make a run worse.
        if not self.hung:
            return []
        return [place for place in self.places if self.hangs_with([other for other in self.places if other != place])]


def dead_places(program):
    """The ascending list of all places of a program."""
    return places_of(wiring_of(program))


def with_closes(program, closes):
    """The program with closes."""
    wiring = wiring_of(program)
    if not is_closes(wiring, places_of(wiring), closes):
        raise InvalidCloses("closes are an ascending list of different places of the program")
    return checked_program(program, closes)


def tidy(program):
    """The program with all closes."""
    return checked_program(program, places_of(wiring_of(program)))


def checked_program(program, closes):
    """The program with closes; raises an error if a body would be too long."""
    found = program_with(program, closes)
    if any([len(body) > MOST_STEPS for body, _ in process_table(found).values()]):
        raise TooLarge(MOST_STEPS)
    return found


def can_cure(program, capacity):
    """Whether a calm program does not hang with all closes."""
    return not Cases(program, capacity).hopeless


def is_cure(program, capacity, value):
    """Whether any value is closes with which a calm program does not hang."""
    cases = Cases(program, capacity)
    return is_closes(cases.wiring, cases.places, value) and not cases.hangs_with(value)


def needed_places(program, capacity):
    """The ascending list of the places without the closes of which a calm program hangs, whatever else is closed."""
    return Cases(program, capacity).needed()


def fewest_closes(program, capacity):
    """The least one of the cures of a calm program with as few closes as possible."""
    cases = Cases(program, capacity)
    needed = cases.needed()
    if not cases.hangs_with(needed):
        return needed
    others = [place for place in cases.places if place not in needed]
    if len(others) > MOST_TRIED:
        raise TooLarge(MOST_TRIED)
    return least_cure(cases, needed, others)


def least_cure(cases, needed, others):
    """The least one of the smallest cures; each has the needed places, and all places together are one."""
    for many in range(1, len(others)):
        tried = [sorted(needed + list(more)) for more in combinations(others, many)]
        cures = [closes for closes in tried if not cases.hangs_with(closes)]
        if len(cures) > 0:
            return min(cures)
    return cases.places
