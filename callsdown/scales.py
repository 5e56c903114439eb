"""SCALED RULES: when each person is told, by whom, and papers on whether all are."""

from callsdown.checks import MOST_NUMBER, is_ascending, is_number, need_people, need_person
from callsdown.errors import BadPaper, BadRule, OutOfPlace
from callsdown.figures import back_of, callers_of, row_behind, rows_of, ticks_of, told_bits

LEAST_SCALE = 2
GREATEST_SCALE = 5
MOST_ADDS = 5
GREATEST_ADD = 20


def need_scaled(thing):
    """The thing itself, if it is a SCALED RULE."""
    if not isinstance(thing, tuple) or len(thing) != 2:
        raise BadRule("form")
    scale, adds = thing
    if not isinstance(adds, tuple) or not 1 <= len(adds) <= MOST_ADDS:
        raise BadRule("form")
    if not is_number(scale, LEAST_SCALE, GREATEST_SCALE):
        raise BadRule("step")
    if not all([is_number(add, 0, GREATEST_ADD) for add in adds]):
        raise BadRule("step")
    if len(set(adds)) < len(adds):
        raise BadRule("same")
    return thing


def tick_at(scaled, person):
    """When the person is TOLD, or None."""
    need_scaled(scaled)
    need_person(person)
    return ticks_of(scaled, [person])[person]


def caller_of(scaled, person):
    """Who tells the person first, the least one of several, or None."""
    need_scaled(scaled)
    need_person(person)
    ticks = ticks_of(scaled, [person])
    calls = [(ticks[caller] + place, caller) for caller, place in callers_of(scaled, person)
             if ticks[caller] is not None]
    return min(calls)[1] if calls else None


def first_never(scaled):
    """The least number that is never TOLD, or None."""
    need_scaled(scaled)
    bits = told_bits(scaled, _decisive(scaled))
    return bits.index(0) if 0 in bits else None


def full_paper(scaled):
    """A paper that shows who is never TOLD, or that the rule is FULL."""
    never = first_never(scaled)
    if never is not None:
        return ("never", never)
    return ("full", ((1,) * (back_of(scaled) + 1),))


def check_full(scaled, paper):
    """The word of the paper, if it holds."""
    need_scaled(scaled)
    if not isinstance(paper, tuple) or len(paper) != 2 or not isinstance(paper[0], str):
        raise BadPaper("form")
    word, shown = paper
    if word not in ("never", "full"):
        raise BadPaper("form")
    if word == "never" and not _is_never(scaled, shown):
        raise BadPaper("never")
    if word == "full" and not _is_table(scaled, shown):
        raise BadPaper("full")
    return word


def is_plain(scaled):
    """Whether the rule is PLAIN."""
    need_scaled(scaled)
    scale, adds = scaled
    return len(set([add % scale for add in adds])) == len(adds)


def last_at(scaled, people):
    """The greatest tick at which one of so many people is TOLD, by a PLAIN rule."""
    _need_plain(scaled)
    need_people(people)
    parts = _parts_of(scaled, people)
    last = {}
    for count in sorted(list(parts)):
        # Somebody but 0 is TOLD if the last tick is not 0; 0 itself makes no call for an add of 0.
        ticks = [last[callers] + place for place, add, callers in parts[count] if add > 0 or last[callers] > 0]
        last[count] = max(ticks, default=0)
    return last[people]


def many_told(scaled, people):
    """How many of so many people are TOLD, by a PLAIN rule."""
    _need_plain(scaled)
    need_people(people)
    parts = _parts_of(scaled, people)
    many = {}
    for count in sorted(list(parts)):
        # 0 is TOLD, though nobody calls 0, and makes no call for an add of 0.
        many[count] = 1 + sum([many[callers] - (0 if add > 0 else 1) for _, add, callers in parts[count]])
    return many[people]


def _decisive(scaled):
    """How many numbers from 0 on tell whether the rule is FULL: somebody of these is never TOLD if anybody is."""
    scale, _ = scaled
    return scale * (back_of(scaled) + 1)


def _is_never(scaled, who):
    """Whether the thing is the number of one who is never TOLD."""
    return is_number(who, 0, MOST_NUMBER) and ticks_of(scaled, [who])[who] is None


def _is_row(thing, size):
    """Whether the thing is a row of so many bits, the first one being 1."""
    if not isinstance(thing, tuple) or len(thing) != size:
        return False
    return all([is_number(bit, 0, 1) for bit in thing]) and thing[0] == 1


def _is_table(scaled, table):
    """Whether the thing is a TABLE."""
    size = back_of(scaled) + 1
    if not isinstance(table, tuple) or not all([_is_row(row, size) for row in table]) or not is_ascending(table):
        return False
    bits = told_bits(scaled, _decisive(scaled))
    held = {row: True for row in table}
    if 0 in bits[:size] or not all([row in held for row in rows_of(bits, size)]):
        return False
    scale, _ = scaled
    return all([row_behind(scaled, row, figure) in held for row in table for figure in range(scale)])


def _need_plain(scaled):
    """OutOfPlace of a rule that is not PLAIN."""
    if not is_plain(scaled):
        raise OutOfPlace("scaled is not PLAIN")


def _parts_of(scaled, people):
    """For so many people, and all numbers of people on which these hang, the parts of those who are called.

    A part is a triple (PLACE, ADD, CALLERS): by that one of ADDS those are called below the
    number of people whose callers are below CALLERS.
    """
    scale, adds = scaled
    parts = {}
    fresh = [people]
    while fresh:
        count = fresh.pop()
        if count not in parts:
            # Of one person alone nobody is called.
            parts[count] = [(place, add, (count - 1 - add) // scale + 1)
                            for place, add in enumerate(adds, start=1) if add < count and count > 1]
            fresh.extend([callers for _, _, callers in parts[count]])
    return parts
