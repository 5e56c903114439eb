"""From which person on two rules part."""

from callsdown.errors import OutOfPlace
from callsdown.figures import back_of, row_behind, rows_of, told_bits
from callsdown.scales import need_scaled
from callsdown.steps import need_rule
from callsdown.walks import called_at, first_window, low_and_shape


def part_line(rule, other):
    """The least person who is not TOLD at the same tick by both LINE RULES, or None."""
    need_rule(rule)
    need_rule(other)
    # As long as the rules have not parted one window tells of both.
    window = first_window(max(rule + other))
    seen = set()
    person = 1
    while True:
        _, shape = low_and_shape(window)
        if shape in seen:
            return None
        seen.add(shape)
        tick = called_at(rule, window)
        if tick != called_at(other, window):
            return person
        window = window[1:] + (tick,)
        person += 1


def part_scaled(scaled, other):
    """The least person who is TOLD by one of two SCALED RULES of the same D alone, or None."""
    need_scaled(scaled)
    need_scaled(other)
    if scaled[0] != other[0]:
        raise OutOfPlace("other has not the same D")
    size = max(back_of(scaled), back_of(other)) + 1
    bits = told_bits(scaled, scaled[0] * size)
    others = told_bits(other, scaled[0] * size)
    for person, bit in enumerate(bits):
        if bit != others[person]:
            return person
    return _part_behind(scaled, other, rows_of(bits, size))


def _part_behind(scaled, other, rows):
    """The least person of whom two rules part that have these rows, those from size on, in common, or None."""
    scale, _ = scaled
    # The numbers are gone through in ascending order. What comes behind hangs on the row
    # alone, so only the least number with each row is gone on from.
    queue = []
    seen = set()
    for person, row in enumerate(rows, start=len(rows[0])):
        if row not in seen:
            seen.add(row)
            queue.append((person, row))
    at = 0
    while at < len(queue):
        person, row = queue[at]
        for figure in range(scale):
            behind = row_behind(scaled, row, figure)
            if behind[0] != row_behind(other, row, figure)[0]:
                return person * scale + figure
            if behind not in seen:
                seen.add(behind)
                queue.append((person * scale + figure, behind))
        at += 1
    return None
