"""Trees that hand on: the worst LAST tick over all LOTS, and papers that show it."""

from callsdown.checks import is_ascending, is_integer, is_number, is_row, need_missing, need_people
from callsdown.courses import bounds_of, leads_of
from callsdown.errors import BadPaper
from callsdown.handing import parts_left, parts_of
from callsdown.shapes import need_kind
from callsdown.ticks import last_tick

MOST_AWAY = 3


def worst_tick(kind, people, missing):
    """The greatest LAST tick of all LOTS of at most so many."""
    _need_all(kind, people, missing)
    place = (people - 1, missing)
    return bounds_of(kind, place)[place]


def worst_lot(kind, people, missing):
    """A LOT of at most so many with the WORST tick."""
    _need_all(kind, people, missing)
    place = (people - 1, missing)
    return _lot_of(kind, place, bounds_of(kind, place))


def worst_paper(kind, people, missing):
    """A paper that shows the WORST tick."""
    _need_all(kind, people, missing)
    place = (people - 1, missing)
    bounds = bounds_of(kind, place)
    triples = [(count, left, bound) for (count, left), bound in bounds.items()]
    return (_lot_of(kind, place, bounds), tuple(sorted(triples)))


def check_worst(kind, people, missing, paper):
    """The WORST tick, if the paper holds."""
    _need_all(kind, people, missing)
    if not isinstance(paper, tuple) or len(paper) != 2:
        raise BadPaper("form")
    lot, bounds = paper
    if not is_row(lot, missing, 1, people - 1):
        raise BadPaper("lot")
    last = last_tick(kind, people, lot)
    if not _are_bounds(kind, (people - 1, missing), last, bounds):
        raise BadPaper("bounds")
    return last


def _need_all(kind, people, missing):
    """The errors that are due for what is no KIND, no number of people, or none of MISSING ones."""
    need_kind(kind)
    need_people(people)
    need_missing(missing, MOST_AWAY)


def _lot_of(kind, place, bounds):
    """The LOT of a row of calls that leads to the greatest tick behind the place, the one of the person 0."""
    lot = []
    person = 0
    while bounds[place] > 0:
        leads = leads_of(kind, place)
        due = bounds[place]
        behind = [one for one in leads if leads[one][0] + bounds[one] == due][0]
        call, vain = leads[behind]
        parts = parts_of(kind, person, place[0])
        for number in range(1, call):
            if number in vain:
                lot.append(parts[0][0])
                parts = parts_left(kind, parts[0]) + parts[1:]
            else:
                parts = parts[1:]
        person = parts[0][0]
        place = behind
    return tuple(sorted(lot))


def _is_triple(place, thing):
    """Whether the thing is a triple (S, J, B) of what may come behind the place."""
    count, missing = place
    if not isinstance(thing, tuple) or len(thing) != 3:
        return False
    return is_number(thing[0], 0, count) and is_number(thing[1], 0, missing) and is_integer(thing[2]) and thing[2] >= 0


def _are_bounds(kind, place, last, bounds):
    """Whether the thing is a tuple of BOUNDS for the place, with that LAST tick."""
    if not isinstance(bounds, tuple) or not all([_is_triple(place, triple) for triple in bounds]):
        return False
    held = {(count, left): bound for count, left, bound in bounds}
    if not is_ascending(bounds) or len(held) < len(bounds) or place not in held or held[place] != last:
        return False
    return all([_is_kept(kind, one, held) for one in held])


def _is_kept(kind, place, held):
    """Whether the bound of the place holds by those of the places to which a call leads."""
    leads = leads_of(kind, place)
    return all([behind in held and held[behind] <= held[place] - leads[behind][0] for behind in leads])
