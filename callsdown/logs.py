"""Logs of who was told at which tick, and the LOTS that fit them."""

from itertools import combinations

from callsdown.checks import is_ascending, is_integer, is_number, need_lot, need_missing
from callsdown.errors import OutOfPlace
from callsdown.handing import way_to
from callsdown.shapes import need_kind

MOST_PEOPLE = 60
MOST_AWAY = 2
NOT_TOLD = -1


def fitting(kind, people, missing, log):
    """The ascending tuple of the LOTS of at most so many that FIT the LOG."""
    need_kind(kind)
    _need_few(people)
    need_missing(missing, MOST_AWAY)
    _need_log(people, log)
    found = []
    others = list(range(1, people))
    for many in range(missing + 1):
        found.extend([lot for lot in combinations(others, many) if _fits(kind, people, lot, log)])
    return tuple(sorted(found))


def is_clear(kind, people, missing, log):
    """Whether just one LOT of at most so many FITS the LOG."""
    return len(fitting(kind, people, missing, log)) == 1


def log_of(kind, people, lot):
    """The LOG of all people."""
    need_kind(kind)
    _need_few(people)
    need_lot(people, lot)
    return tuple([(person, _tick_in(kind, people, lot, person)) for person in range(people)])


def _need_few(people):
    """OutOfPlace of what is no number of people of whom there are logs."""
    if not is_number(people, 1, MOST_PEOPLE):
        raise OutOfPlace("people is no integer from 1 to 60")


def _need_log(people, log):
    """OutOfPlace of what is no LOG of so many people."""
    # Nobody can be in it twice, so it cannot have more pairs than there are people.
    if not isinstance(log, tuple) or not all([_is_pair(people, pair) for pair in log]):
        raise OutOfPlace("log is no tuple of pairs of a person and a tick, or -1")
    if not is_ascending([person for person, _ in log]):
        raise OutOfPlace("log is not ascending, or has a person twice")


def _is_pair(people, thing):
    """Whether the thing is a pair of one of so many people and a tick, or -1."""
    if not isinstance(thing, tuple) or len(thing) != 2:
        return False
    return is_number(thing[0], 0, people - 1) and is_integer(thing[1]) and thing[1] >= NOT_TOLD


def _tick_in(kind, people, lot, person):
    """The TICK of the person, or -1."""
    if person in lot:
        return NOT_TOLD
    _, tick, _ = way_to(kind, people, lot, person)
    return tick


def _fits(kind, people, lot, log):
    """Whether the LOT FITS the LOG."""
    # Who is missing is seen at once: most lots need no tick to be worked out.
    if not all([(person in lot) == (tick == NOT_TOLD) for person, tick in log]):
        return False
    for person, tick in log:
        if _tick_in(kind, people, lot, person) != tick:
            return False
    return True
