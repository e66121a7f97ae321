"""Calls that lead from one table of descriptors to another, as few as possible."""

from fdwires.checks import DESCRIPTORS, is_descriptor, is_list, is_tuple
from fdwires.errors import InvalidCalls, NoCalls
from fdwires.rings import ring_from
from fdwires.tables import check_table, table_behind

MOST_CALLS = 100


def changed_numbers(table, goal):
    """The ascending list of the numbers that have other ends in the goal."""
    return [number for number in range(DESCRIPTORS) if table[number] != goal[number]]


def ring_links(table, goal):
    """A dict from each changed number that can be in a ring to the number that would be next in it.

    Different numbers have different next ones, as no two of them may want the same end. So whoever follows the links
    comes back to the first number, or to a number without a link.
    """
    changed = changed_numbers(table, goal)
    wanted = [goal[number] for number in changed]
    links = {}
    for number in changed:
        end = goal[number]
        holders = [other for other in range(DESCRIPTORS) if table[other] == end]
        if end is not None and wanted.count(end) == 1 and len(holders) == 1:
            links[number] = holders[0]
    return links


def find_rings(table, goal):
    """The ascending list of all rings, each of which begins with its least number."""
    links = ring_links(table, goal)
    rings = [ring_from(links, number) for number in links]
    return [ring for ring in rings if ring != () and ring[0] == min(ring)]


def has_unchanged_spare(table, goal):
    """Whether a number that is not changed is free, or has an end that another such number has, too."""
    kept = [end for end, wish in zip(table, goal) if end == wish]
    return any([end is None or kept.count(end) > 1 for end in kept])


def count_calls(table, goal):
    """The number of the fewest calls, None if no calls lead to the goal."""
    if any([end is not None and end not in table for end in goal]):
        return None
    many = len(changed_numbers(table, goal))
    rings = find_rings(table, goal)
    if len(rings) == 0:
        return many
    # A changed number outside of all rings serves as the spare one for each of them, at no further cost.
    if sum([len(ring) for ring in rings]) < many:
        return many + len(rings)
    if has_unchanged_spare(table, goal):
        return many + len(rings) + 1
    return None


def possible_calls(table):
    """The ascending list of the calls that close or copy a number that is not free."""
    taken = [number for number in range(DESCRIPTORS) if table[number] is not None]
    closes = [("close", number) for number in taken]
    return closes + [("copy", number, other) for number in taken for other in range(DESCRIPTORS)]


def begins_well(table, goal, call, many):
    """Whether a call is the first one of a list of this many calls that leads to the goal."""
    return count_calls(table_behind(table, call, ()), goal) == many - 1


def least_call(table, goal, many):
    """The least call with which a list of this many calls, as few as possible, can begin."""
    for call in possible_calls(table):
        if begins_well(table, goal, call, many):
            return call
    return None


def is_call(value):
    """Whether a value has the form of a call."""
    if not is_tuple(value) or len(value) < 2 or not isinstance(value[0], str):
        return False
    if not all([is_descriptor(number) for number in value[1:]]):
        return False
    return (value[0] == "copy" and len(value) == 3) or (value[0] == "close" and len(value) == 2)


def is_call_list(value):
    """Whether a value is a list that is not too long to be calls."""
    return is_list(value) and len(value) <= MOST_CALLS


def wrong_call(table, items):
    """The index of the first item that is no call, or copies or closes a free number at its turn, None without one."""
    ends = table
    for index, item in enumerate(items):
        if not is_call(item) or ends[item[1]] is None:
            return index
        ends = table_behind(ends, item, ())
    return None


def table_after(table, calls):
    """The table behind calls."""
    ends = list(table)
    for call in calls:
        ends = table_behind(ends, call, ())
    return ends


def rings_of(table, goal):
    """The ascending list of all rings of a table and a goal."""
    check_table(table)
    check_table(goal)
    return find_rings(table, goal)


def fewest_calls(table, goal):
    """The number of the fewest calls that lead from a table to a goal, None if no calls lead there."""
    check_table(table)
    check_table(goal)
    return count_calls(table, goal)


def needed_calls(table, goal):
    """The number of the fewest calls; raises an error if no calls lead to the goal."""
    many = fewest_calls(table, goal)
    if many is None:
        raise NoCalls("no calls lead from the table to the goal")
    return many


def calls_between(table, goal):
    """The least list of as few calls as possible that lead from a table to a goal."""
    many = needed_calls(table, goal)
    calls = []
    ends = table
    for left in range(many, 0, -1):
        call = least_call(ends, goal, left)
        calls.append(call)
        ends = table_behind(ends, call, ())
    return calls


def next_calls(table, goal):
    """The ascending list of all calls with which as few calls as possible can begin."""
    many = needed_calls(table, goal)
    return [call for call in possible_calls(table) if begins_well(table, goal, call, many)]


def is_calls(table, value):
    """Whether any value is calls that are possible from a table on."""
    check_table(table)
    return is_call_list(value) and wrong_call(table, value) is None


def after_calls(table, calls):
    """The table behind calls."""
    check_table(table)
    if not is_call_list(calls):
        raise InvalidCalls(None)
    wrong = wrong_call(table, calls)
    if wrong is not None:
        raise InvalidCalls(wrong)
    return table_after(table, calls)


def least_calls(table, goal, value):
    """Whether any value is as few calls as possible that lead from a table to a goal."""
    check_table(table)
    check_table(goal)
    if not is_call_list(value) or wrong_call(table, value) is not None:
        return False
    return len(value) == count_calls(table, goal) and table_after(table, value) == goal
