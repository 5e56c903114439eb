"""LINE RULES: when each person is told, and by whom they are called."""

from callsdown.checks import is_number, need_absence, need_people, need_person
from callsdown.errors import BadRule
from callsdown.walks import called_at, state_behind

MOST_STEPS = 4
GREATEST_STEP = 6


def need_rule(thing):
    """The thing itself, if it is a LINE RULE."""
    if not isinstance(thing, tuple) or not 1 <= len(thing) <= MOST_STEPS:
        raise BadRule("form")
    if not all([is_number(step, 1, GREATEST_STEP) for step in thing]):
        raise BadRule("step")
    if len(set(thing)) < len(thing):
        raise BadRule("same")
    return thing


def tick_of(rule, absent, person):
    """When the person is TOLD, or None."""
    need_rule(rule)
    need_absence(absent)
    need_person(person)
    if person in absent:
        return None
    if person == 0:
        return 0
    window, _ = state_behind(rule, absent, person)
    return called_at(rule, window)


def callers(rule, absent, person):
    """The ascending tuple of those who call the person, being TOLD themselves."""
    need_rule(rule)
    need_absence(absent)
    need_person(person)
    if person == 0:
        return ()
    window, _ = state_behind(rule, absent, person)
    return tuple([person - step for step in sorted(rule, reverse=True) if window[-step] is not None])


def last_tick(rule, absent, people):
    """The greatest tick at which one of so many people is TOLD."""
    need_rule(rule)
    need_absence(absent)
    need_people(people)
    _, last = state_behind(rule, absent, people)
    return last
