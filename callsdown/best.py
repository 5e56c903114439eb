"""Trees that hand on: the least tick of all, and which KINDS reach it."""

from callsdown.checks import need_people
from callsdown.handing import longest
from callsdown.shapes import LEAST_PARTS, MOST_PARTS, WORDS, mosts_to, need_calls, need_kind


def least_tick(people, calls):
    """The LEAST tick for so many people of whom each one calls at most so many, or None: without bound."""
    need_people(people)
    need_calls(calls)
    return len(mosts_to(calls, people)) - 1


def is_best(kind, people):
    """Whether the LAST tick with nobody MISSING is the LEAST one without bound."""
    need_kind(kind)
    need_people(people)
    return _last_of(kind, people) == least_tick(people, None)


def best_kinds(people):
    """The ascending tuple of all KINDS whose LAST tick with nobody MISSING is the least of all KINDS."""
    need_people(people)
    lasts = {kind: _last_of(kind, people) for kind in _all_kinds()}
    least = min([lasts[kind] for kind in lasts])
    return tuple(sorted([kind for kind in lasts if lasts[kind] == least]))


def _all_kinds():
    """All KINDS."""
    numbered = [(word, number) for word in WORDS if word != "half" for number in range(LEAST_PARTS, MOST_PARTS + 1)]
    return [("half",)] + numbered


def _last_of(kind, people):
    """The LAST tick of so many people with nobody MISSING."""
    return longest(kind, [people - 1], 0)[people - 1]
