"""Who calls whom by a SCALED RULE that is known to be one.

A row of bits tells of a number, and of those ahead of it, whether they are TOLD: 1 or 0,
the own one first.
"""


def back_of(scaled):
    """The BACK of the rule."""
    scale, adds = scaled
    return max(adds) // (scale - 1)


def callers_of(scaled, person):
    """The pairs (CALLER, PLACE) of all who may call the person, and the place of that call among theirs."""
    scale, adds = scaled
    pairs = [((person - add) // scale, place) for place, add in enumerate(adds, start=1)
             if add <= person and (person - add) % scale == 0]
    # Nobody calls the own number, as 0 would with 0 among ADDS.
    return [(caller, place) for caller, place in pairs if caller != person]


def ticks_of(scaled, people):
    """A dict of the ticks, or None, of these people and of all on whom these hang."""
    calls = {}
    fresh = list(people)
    while fresh:
        person = fresh.pop()
        if person not in calls:
            calls[person] = callers_of(scaled, person)
            fresh.extend([caller for caller, _ in calls[person]])
    ticks = {}
    # A caller is less than who is called.
    for person in sorted(list(calls)):
        heard = [ticks[caller] + place for caller, place in calls[person] if ticks[caller] is not None]
        ticks[person] = 0 if person == 0 else min(heard, default=None)
    return ticks


def told_bits(scaled, count):
    """For each number below count whether it is TOLD: 1 or 0."""
    ticks = ticks_of(scaled, list(range(count)))
    return [0 if ticks[person] is None else 1 for person in range(count)]


def rows_of(bits, size):
    """The rows of so many bits of the numbers from size on."""
    return [tuple([bits[person - back] for back in range(size)]) for person in range(size, len(bits))]


def row_behind(scaled, row, figure):
    """The row of the number that is D times that of this row, and the figure more."""
    scale, adds = scaled
    return tuple([1 if _is_called(scale, adds, row, back - figure) else 0 for back in range(len(row))])


def _is_called(scale, adds, row, back):
    """Whether somebody who is told by the row calls the number so far back from the scaled one."""
    return any([row[(back + add) // scale] == 1 for add in adds if (back + add) % scale == 0])
