"""What several modules ask of their arguments."""

from callsdown.errors import OutOfPlace

MOST_NUMBER = 10 ** 30
MOST_MISSING = 4
MOST_LOT = 3


def is_integer(thing):
    """Whether the thing is an integer."""
    # True and False are ints for Python, and no integers here.
    return isinstance(thing, int) and not isinstance(thing, bool)


def is_number(thing, low, high):
    """Whether the thing is an integer from low to high."""
    return is_integer(thing) and low <= thing <= high


def is_ascending(things):
    """Whether each of the things is greater than the one ahead."""
    return all([one < behind for one, behind in zip(things, things[1:])])


def is_row(thing, most, low, high):
    """Whether the thing is an ascending tuple of at most so many integers from low to high."""
    if not isinstance(thing, tuple) or len(thing) > most:
        return False
    return all([is_number(one, low, high) for one in thing]) and is_ascending(thing)


def is_absence(thing, most):
    """Whether the thing is an ABSENCE of at most so many."""
    return is_row(thing, most, 1, MOST_NUMBER)


def need_absence(absent):
    """OutOfPlace of what is no ABSENCE."""
    if not is_absence(absent, MOST_MISSING):
        raise OutOfPlace("absent is no ascending tuple of at most 4 numbers from 1 to 10 ** 30")


def need_away(away):
    """OutOfPlace of what is no number of people who may be missing."""
    if not is_number(away, 0, MOST_MISSING):
        raise OutOfPlace("away is no integer from 0 to 4")


def need_person(person):
    """OutOfPlace of what is no number of a person."""
    if not is_number(person, 0, MOST_NUMBER):
        raise OutOfPlace("person is no integer from 0 to 10 ** 30")


def need_people(people):
    """OutOfPlace of what is no number of people."""
    if not is_number(people, 1, MOST_NUMBER):
        raise OutOfPlace("people is no integer from 1 to 10 ** 30")


def need_lot(people, lot):
    """OutOfPlace of what is no LOT of so many people."""
    if not is_row(lot, MOST_LOT, 1, people - 1):
        raise OutOfPlace("lot is no ascending tuple of at most 3 of the people, without 0")


def need_one_of(people, person):
    """OutOfPlace of what is none of so many people."""
    if not is_number(person, 0, people - 1):
        raise OutOfPlace("person is none of the people")


def need_missing(missing, most):
    """OutOfPlace of what is no number of people, at most so many, who may be MISSING."""
    if not is_number(missing, 0, most):
        raise OutOfPlace(f"missing is no integer from 0 to {most}")
