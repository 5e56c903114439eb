"""The greatest LAST of a SAFE LINE RULE over all ABSENCES, and what one person more costs.

A place is a pair (SHAPE, LEFT): SHAPE has the ticks of the last people, as many as the
REACH, less by the least one of them, and None for who is missing or of no number; LEFT is
how many may still be missing. Places are numbered as they are found; the number 0 is the
one behind the person 0. The MOVES of a place are triples (GONE, BEHIND, MORE): whether the
next person is missing, the number of the place behind, and by how much its least tick is
greater. The ROW of COUNT has for each place the greatest tick that one of the last people
can have COUNT people later, the least tick of the place being 0.
"""

from math import gcd

from callsdown.checks import is_number, need_people
from callsdown.errors import OutOfPlace
from callsdown.losses import is_safe
from callsdown.steps import need_rule
from callsdown.walks import called_at, first_window, low_and_shape

MOST_SHOWN = 60


def latest(rule, away, people):
    """The greatest LAST of so many people for all ABSENCES of at most so many."""
    _need_safe(rule, away)
    need_people(people)
    places, moves = _places_of(rule, away)
    row = _first_row(places)
    most = row[0]
    seen = {}
    left = people - 1
    while left > 0:
        low = min(row)
        shape = tuple([tick - low for tick in row])
        if shape in seen:
            start, base = seen[shape]
            return max(most, _most_in_rounds(moves, row, left, start - left, low - base))
        seen[shape] = (left, low)
        row = _row_behind(moves, row)
        most = max(most, row[0])
        left -= 1
    return most


def latest_absence(rule, away, people):
    """An ABSENCE of at most so many of these people with the greatest LAST."""
    _need_safe(rule, away)
    if not is_number(people, 1, MOST_SHOWN):
        raise OutOfPlace("people is no integer from 1 to 60")
    places, moves = _places_of(rule, away)
    rows = [_first_row(places)]
    for _ in range(people - 1):
        rows.append(_row_behind(moves, rows[-1]))
    ticks = [row[0] for row in rows]
    return _absence_of(moves, rows[:ticks.index(max(ticks)) + 1])


def growth(rule):
    """The least of the fractions place / STEP, as a pair in least terms."""
    need_rule(rule)
    above, below = (1, rule[0])
    for place, step in enumerate(rule, start=1):
        if place * below < above * step:
            above, below = (place, step)
    shared = gcd(above, below)
    return (above // shared, below // shared)


def _need_safe(rule, away):
    """OutOfPlace of a rule that is not SAFE with so many missing."""
    if not is_safe(rule, away):
        raise OutOfPlace("rule is not SAFE with so many missing")


def _places_of(rule, away):
    """The places, in the order of their numbers, and the MOVES of each."""
    first = (first_window(max(rule)), away)
    numbers = {first: 0}
    places = [first]
    moves = []
    while len(moves) < len(places):
        place = places[len(moves)]
        found = []
        for gone, behind, more in _moves_from(rule, place):
            if behind not in numbers:
                numbers[behind] = len(places)
                places.append(behind)
            found.append((gone, numbers[behind], more))
        moves.append(found)
    return places, moves


def _moves_from(rule, place):
    """The MOVES of the place, with the places behind themselves."""
    shape, left = place
    more, behind = low_and_shape(shape[1:] + (called_at(rule, shape),))
    found = [(False, (behind, left), more)]
    if left > 0:
        more, behind = low_and_shape(shape[1:] + (None,))
        found.append((True, (behind, left - 1), more))
    return found


def _first_row(places):
    """The ROW of 0."""
    return [max([tick for tick in shape if tick is not None]) for shape, _ in places]


def _row_behind(moves, row):
    """The ROW of one person more."""
    return [max([more + row[behind] for _, behind, more in found]) for found in moves]


def _most_in_rounds(moves, row, count, size, more):
    """The greatest tick of so many people more, where ROWS come again each size people, later by more."""
    # The last whole round is gone through one by one: the greatest tick of all rounds is in it.
    rounds = max(0, count // size - 1)
    row = [tick + rounds * more for tick in row]
    most = row[0]
    for _ in range(count - rounds * size):
        row = _row_behind(moves, row)
        most = max(most, row[0])
    return most


def _absence_of(moves, rows):
    """The ABSENCE of a way from the person 0 to the greatest tick of the last one of the ROWS."""
    absent = []
    place = 0
    for left in range(len(rows) - 1, 0, -1):
        due = rows[left][place]
        gone, place = [(gone, at) for gone, at, more in moves[place] if more + rows[left - 1][at] == due][0]
        if gone:
            absent.append(len(rows) - left)
    return tuple(absent)
