"""The course of a calm program: the one end to which all its runs come, found without moving unit by unit.

No schedule matters there, so each process moves as many units at once as it can until some step is done. Steps are
done a few hundred times at the most, whatever the amounts and the capacity.
"""

from fdwires.errors import Endless
from fdwires.rings import ring_from
from fdwires.states import behind_step, behind_units, current_flow, first_state, is_running


def course_of(wiring, capacity):
    """The final state of a calm program, and a dict from pairs to the units that steps with a flow have moved.

    A pair has the number of a process and the index of its step; steps that have moved nothing can be left out.
    """
    moved = {}
    state = settled(wiring, first_state(wiring))
    units = units_ahead(wiring, capacity, state)
    while any([many > 0 for many in units.values()]):
        for at, many in units.items():
            pair = (at, state[0][at][1])
            moved[pair] = moved.get(pair, 0) + many
            state = behind_units(wiring, state, at, many)
        state = settled(wiring, state)
        units = units_ahead(wiring, capacity, state)
    return (state, moved)


def settled(wiring, state):
    """The state behind all steps that can be done without a unit of a pipe."""
    at = 0
    while at < len(wiring.processes):
        behind = behind_step(wiring, state, at) if is_running(state[0], at) else None
        if behind is None:
            at += 1
        else:
            # What one process has done can be what another one has waited for.
            state = behind
            at = 0
    return state


def units_ahead(wiring, capacity, state):
    """A dict from the running processes at steps with a flow to the most units that they move during these steps.

    Raises an error if processes pass units to one another for ever.
    """
    places, contents = state
    flows = flows_ahead(wiring, places)
    links = reader_links(flows)
    limits = limits_outside(capacity, contents, flows, links)
    for at in links:
        ring = ring_from(links, at)
        if len(ring) > 0 and not can_turn(capacity, contents, flows, ring):
            limits[at] = 0
    share_limits(capacity, contents, flows, links, limits)
    for at in limits:
        if limits[at] is None:
            ring = ring_from(links, at)
            raise Endless(tuple(sorted([wiring.processes[member] for member in ring])))
    return limits


def flows_ahead(wiring, places):
    """A dict from the running processes at steps with a flow to these, with the units that are left of the amount."""
    flows = {}
    for at in range(len(places)):
        flow = current_flow(wiring, places, at) if is_running(places, at) else None
        if flow is not None:
            source, target, amount = flow
            flows[at] = (source, target, None if amount is None else amount - places[at][2])
    return flows


def reader_links(flows):
    """A dict from each process that moves units to a pipe to the process that takes units from this pipe, if any."""
    return {at: other for at in flows for other in flows
            if flows[at][1] is not None and flows[at][1] == flows[other][0]}


def limits_outside(capacity, contents, flows, links):
    """A dict from processes to the most units that they move if links set no limit, None where nothing does.

    Nobody fills or empties a pipe without a link during these steps.
    """
    fed = list(links.values())
    limits = {}
    for at, (source, target, left) in flows.items():
        limit = left
        if source is not None and at not in fed:
            limit = lesser(limit, contents[source])
        if target is not None and at not in links:
            limit = lesser(limit, capacity - contents[target])
        limits[at] = limit
    return limits


def lesser(limit, other):
    """The lesser one of two limits, of which None is none."""
    if limit is None or other is None:
        return other if limit is None else limit
    return min(limit, other)


def raised(limit, more):
    """A limit with some more units."""
    return None if limit is None else limit + more


def can_turn(capacity, contents, flows, ring):
    """Whether units can move round a ring of links: it has a unit, and space for one."""
    many = sum([contents[flows[at][1]] for at in ring])
    return 0 < many < capacity * len(ring)


def share_limits(capacity, contents, flows, links, limits):
    """Lowers limits to those that the links set, too, until they cannot be lowered.

    The reader of a pipe can move the units of its writer and what the pipe contains, and the writer those of its
    reader and what the pipe has space for. The least limit spreads by one link in each turn. Where units can turn
    round, all limits are reached: if no process could go on, each would wait for the next one of an empty or full ring.
    """
    for _ in range(len(limits)):
        for writer, reader in links.items():
            many = contents[flows[writer][1]]
            limits[reader] = lesser(limits[reader], raised(limits[writer], many))
            limits[writer] = lesser(limits[writer], raised(limits[reader], capacity - many))
