"""The walk from person to person, for LINE RULES that are known to be such.

A state is a pair (WINDOW, LAST): WINDOW has the ticks of the last people, as many as the
REACH, the one with the least number first, and None for who is missing, never told or of
no number; LAST is the greatest tick so far.
"""


def first_window(reach):
    """The window behind the person 0."""
    return (None,) * (reach - 1) + (0,)


def called_at(rule, window):
    """The least tick of a call to the person behind the window, or None."""
    calls = [window[-step] + place for place, step in enumerate(rule, start=1) if window[-step] is not None]
    return min(calls, default=None)


def state_behind(rule, absent, people):
    """The state behind the people 0 to people - 1, at least one."""
    state = (first_window(max(rule)), 0)
    person = 1
    for gone in absent:
        if gone < people:
            state = _behind_person(_behind_many(rule, state, gone - person), None)
            person = gone + 1
    return _behind_many(rule, state, people - person)


def low_and_shape(window):
    """The least tick of the window, or 0, and the window with each tick less by so much."""
    low = min([tick for tick in window if tick is not None], default=0)
    return low, _later(window, -low)


def _behind_person(state, tick):
    """The state behind one person more, who is told at that tick, or not (None)."""
    window, last = state
    if tick is not None and tick > last:
        last = tick
    return (window[1:] + (tick,), last)


def _behind_few(rule, state, count):
    """The state behind so many people more, nobody missing, one by one."""
    for _ in range(count):
        state = _behind_person(state, called_at(rule, state[0]))
    return state


def _behind_many(rule, state, count):
    """The state behind so many people more, nobody missing, whole rounds of them at once."""
    seen = {}
    left = count
    while left > 0:
        base, shape = low_and_shape(state[0])
        if shape in seen:
            start, low = seen[shape]
            return _behind_rounds(rule, state, left, start - left, base - low)
        seen[shape] = (left, base)
        state = _behind_few(rule, state, 1)
        left -= 1
    return state


def _behind_rounds(rule, state, count, size, more):
    """The state behind so many people more, where rounds of size people come again, each later by more."""
    # The last whole round is walked one by one: the greatest tick of all rounds is in it.
    rounds = max(0, count // size - 1)
    window, last = state
    ahead = (_later(window, rounds * more), last)
    return _behind_few(rule, ahead, count - rounds * size)


def _later(window, more):
    """The window with all ticks later by so much."""
    return tuple([None if tick is None else tick + more for tick in window])
