"""Trees that hand on: when people have called back."""

from callsdown.checks import need_one_of
from callsdown.handing import longest, need_tree, spread, way_to


def back_tick(kind, people, lot):
    """The tick at which 0 is READY."""
    need_tree(kind, people, lot)
    return _ready_behind(kind, lot, 0, people - 1)


def ready_at(kind, people, lot, person):
    """The tick at which the person is READY, or None of a MISSING one."""
    need_tree(kind, people, lot)
    need_one_of(people, person)
    if person in lot:
        return None
    _, tick, count = way_to(kind, people, lot, person)
    return tick + _ready_behind(kind, lot, person, count)


def _ready_behind(kind, lot, person, handed):
    """How many ticks behind their own one the person, who is handed so many, is READY."""
    mixed, whole = spread(kind, lot, person, handed)
    # Each call back takes a tick, so whoever is so many hops away is heard of as many ticks later.
    costs = longest(kind, [count for _, _, count in whole], 1)
    ready = [tick + hops + calls for tick, hops, calls in mixed]
    return max(ready + [tick + hops + costs[count] for tick, hops, count in whole])
