"""KINDS of trees that hand on: their PARTS, and LOTS of missing people."""

from callsdown.checks import MOST_LOT, MOST_NUMBER, is_number, is_row, need_people
from callsdown.errors import BadKind, OutOfPlace

WORDS = ("parts", "half", "best", "heap")
LEAST_PARTS = 2
MOST_PARTS = 8
MOST_TICKS = 200


def need_kind(thing):
    """The thing itself, if it is a KIND."""
    if not isinstance(thing, tuple) or len(thing) == 0:
        raise BadKind("form")
    if not isinstance(thing[0], str) or thing[0] not in WORDS:
        raise BadKind("form")
    if thing[0] == "half":
        fits = len(thing) == 1
    else:
        fits = len(thing) == 2 and is_number(thing[1], LEAST_PARTS, MOST_PARTS)
    if not fits:
        raise BadKind("number")
    return thing


def is_lot(people, value):
    """Whether the value is a LOT of so many people."""
    need_people(people)
    return is_row(value, MOST_LOT, 1, people - 1)


def most_told(calls, ticks):
    """MOST of so many ticks for at most so many calls, or None: without bound."""
    need_calls(calls)
    if not is_number(ticks, 0, MOST_TICKS):
        raise OutOfPlace("ticks is no integer from 0 to 200")
    mosts = [1]
    for _ in range(ticks):
        mosts.append(_most_behind(calls, mosts))
    return mosts[-1]


def need_calls(calls):
    """OutOfPlace of what is no greatest number of calls, nor None."""
    if calls is not None and not is_number(calls, LEAST_PARTS, MOST_PARTS):
        raise OutOfPlace("calls is no integer from 2 to 8, and not None")


def mosts_to(calls, people):
    """MOST of each tick from 0 on, up to the first that is at least so many people."""
    mosts = [1]
    while mosts[-1] < people:
        mosts.append(_most_behind(calls, mosts))
    return mosts


def sizes(kind, count):
    """The tuple of how many people each PART has of one who is handed so many."""
    need_kind(kind)
    if not is_number(count, 0, MOST_NUMBER):
        raise OutOfPlace("count is no integer from 0 to 10 ** 30")
    if kind[0] == "parts":
        return _like_parts(kind[1], count)
    if kind[0] == "half":
        return _half_parts(count)
    if kind[0] == "best":
        return _best_parts(kind[1], count)
    return tuple([_below(kind[1], first, count + 1) for first in range(1, min(kind[1], count) + 1)])


def _most_behind(calls, mosts):
    """MOST of the tick behind those of which it is told already, from 0 on."""
    return 1 + sum(mosts if calls is None else mosts[-calls:])


def _like_parts(most, count):
    """The sizes of at most so many PARTS that are as like as can be."""
    many = min(most, count)
    if many == 0:
        return ()
    size, more = divmod(count, many)
    return (size + 1,) * more + (size,) * (many - more)


def _half_parts(count):
    """The sizes of PARTS of which each one has half of what is left."""
    parts = []
    left = count
    while left > 0:
        parts.append((left + 1) // 2)
        left = left // 2
    return tuple(parts)


def _best_parts(calls, count):
    """The sizes of PARTS that have as many as can be told in the ticks that are left to each."""
    mosts = mosts_to(calls, count + 1)
    parts = []
    left = count
    # With the greatest MOST ahead the ones before it suffice: at most so many calls are made.
    for most in reversed(mosts[:-1]):
        if left > 0:
            parts.append(min(most, left))
            left -= parts[-1]
    return tuple(parts)


def _below(calls, person, people):
    """How many of so many people of a heap are that person, or below."""
    first = person
    last = person
    many = 0
    while first < people:
        many += min(last, people - 1) - first + 1
        first = calls * first + 1
        last = calls * last + calls
    return many
