"""How people hand others on by a KIND: the calls that each one makes, and the way to somebody.

A PART is a pair (FIRST, SIZE): its first one, and how many it has with this one. The count of
somebody is how many they are handed.
"""

from callsdown.checks import need_lot, need_people
from callsdown.shapes import need_kind, sizes


def need_tree(kind, people, lot):
    """The errors that are due for what is no KIND, no number of people, or no LOT of these."""
    need_kind(kind)
    need_people(people)
    need_lot(people, lot)


def parts_of(kind, person, count):
    """The PARTS of the person, who is handed so many."""
    return _placed(kind, person, sizes(kind, count))


def parts_left(kind, part):
    """The PARTS that are left of this one, whose first one is MISSING."""
    first, size = part
    return _placed(kind, first, sizes_left(kind, size))


def sizes_left(kind, size):
    """The sizes of the PARTS that are left of one of that size, whose first one is MISSING."""
    if kind[0] == "heap":
        return sizes(kind, size - 1)
    return (size - 1,) if size > 1 else ()


def calls_made(kind, person, count, lot):
    """The PARTS whose first ones the person calls, in the order of calling."""
    made = []
    left = list(reversed(parts_of(kind, person, count)))
    while left:
        part = left.pop()
        made.append(part)
        if part[0] in lot:
            left.extend(list(reversed(parts_left(kind, part))))
    return made


def is_of(kind, part, person):
    """Whether the person is of the PART."""
    first, size = part
    if kind[0] != "heap":
        return first <= person < first + size
    above = person
    while above > first:
        above = (above - 1) // kind[1]
    return above == first


def way_to(kind, people, lot, person):
    """The CALLER of the person, or None, the tick at which they are called, and their count."""
    caller = None
    at = 0
    tick = 0
    count = people - 1
    while at != person:
        calls = [(call, part) for call, part in enumerate(calls_made(kind, at, count, lot), start=1)
                 if _is_towards(kind, lot, part, person)]
        call, part = calls[0]
        caller = at
        tick += call
        at = part[0]
        count = part[1] - 1
    return caller, tick, count


def spread(kind, lot, person, count):
    """Those told who have MISSING ones below them, with that person first, and those who have none.

    The first ones are triples (TICK, HOPS, CALLS), the others (TICK, HOPS, COUNT): how many
    ticks and calls they are behind the person, and how many calls they make, or are handed.
    """
    mixed = []
    whole = []
    fresh = [(0, 0, person, count)]
    while fresh:
        tick, hops, caller, handed = fresh.pop()
        calls = calls_made(kind, caller, handed, lot)
        mixed.append((tick, hops, len(calls)))
        for call, part in enumerate(calls, start=1):
            first, size = part
            if first not in lot and any([is_of(kind, part, gone) for gone in lot]):
                fresh.append((tick + call, hops + 1, first, size - 1))
            elif first not in lot:
                whole.append((tick + call, hops + 1, size - 1))
    return mixed, whole


def longest(kind, counts, hop):
    """For each of the counts, with nobody MISSING, and all on which it hangs, the longest row of calls below.

    Each call costs its place among those of the caller, and hop more.
    """
    parts = {}
    fresh = list(counts)
    while fresh:
        count = fresh.pop()
        if count not in parts:
            parts[count] = sizes(kind, count)
            fresh.extend([size - 1 for size in parts[count]])
    costs = {}
    # Who is called is handed less than the caller.
    for count in sorted(list(parts)):
        rows = [call + hop + costs[size - 1] for call, size in enumerate(parts[count], start=1)]
        costs[count] = max(rows, default=0)
    return costs


def _placed(kind, person, many):
    """The PARTS of so many people each that are the next ones below the person."""
    parts = []
    is_heap = kind[0] == "heap"
    first = kind[1] * person + 1 if is_heap else person + 1
    for size in many:
        parts.append((first, size))
        first += 1 if is_heap else size
    return tuple(parts)


def _is_towards(kind, lot, part, person):
    """Whether the call of the first one of the PART is the one to the person, or tells somebody who sees to it."""
    return part[0] == person or (part[0] not in lot and is_of(kind, part, person))
