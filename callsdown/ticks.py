"""Trees that hand on: when each one is told, and by whom."""

from callsdown.checks import need_one_of
from callsdown.handing import calls_made, longest, need_tree, spread, way_to


def told_at(kind, people, lot, person):
    """The TICK of the person, or None of a MISSING one."""
    need_tree(kind, people, lot)
    need_one_of(people, person)
    if person in lot:
        return None
    _, tick, _ = way_to(kind, people, lot, person)
    return tick


def called_by(kind, people, lot, person):
    """The CALLER of the person, or None of 0."""
    need_tree(kind, people, lot)
    need_one_of(people, person)
    caller, _, _ = way_to(kind, people, lot, person)
    return caller


def calls_of(kind, people, lot, person):
    """How many calls the person makes."""
    need_tree(kind, people, lot)
    need_one_of(people, person)
    if person in lot:
        return 0
    _, _, count = way_to(kind, people, lot, person)
    return len(calls_made(kind, person, count, lot))


def last_tick(kind, people, lot):
    """The greatest TICK of all."""
    need_tree(kind, people, lot)
    mixed, whole = spread(kind, lot, 0, people - 1)
    costs = longest(kind, [count for _, _, count in whole], 0)
    ticks = [tick for tick, _, _ in mixed]
    return max(ticks + [tick + costs[count] for tick, _, count in whole])
