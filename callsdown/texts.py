"""LINE RULES, SCALED RULES and KINDS as texts."""

from callsdown.errors import BadKind, BadRule, BadText
from callsdown.scales import need_scaled
from callsdown.shapes import need_kind
from callsdown.steps import need_rule
from callsdown.words import numbers_of


def rule_text(rule):
    """The text of a LINE RULE."""
    need_rule(rule)
    return _row_of(rule)


def scaled_text(scaled):
    """The text of a SCALED RULE."""
    need_scaled(scaled)
    scale, adds = scaled
    return str(scale) + ":" + _row_of(adds)


def kind_text(kind):
    """The text of a KIND."""
    need_kind(kind)
    return _row_of(kind)


def read_rule(string):
    """The LINE RULE of the text."""
    return _read(string, _rule_of)


def read_scaled(string):
    """The SCALED RULE of the text."""
    return _read(string, _scaled_of)


def read_kind(string):
    """The KIND of the text."""
    return _read(string, _kind_of)


def _row_of(things):
    """The things with single blanks between."""
    return " ".join([str(thing) for thing in things])


def _read(string, thing_of):
    """What the one row of the text tells: thing_of gives it for a row, or None."""
    if not isinstance(string, str):
        raise BadText(0)
    rows = string.split("\n")
    thing = thing_of(rows[0])
    if thing is None:
        raise BadText(1)
    if len(rows) > 1:
        raise BadText(2)
    return thing


def _rule_of(row):
    """The LINE RULE of the row, or None."""
    try:
        return need_rule(numbers_of(row.split(" ")))
    except BadRule:
        return None


def _scaled_of(row):
    """The SCALED RULE of the row, or None."""
    scale, _, adds = row.partition(":")
    scales = numbers_of([scale])
    if scales is None:
        return None
    try:
        return need_scaled(scales + (numbers_of(adds.split(" ")),))
    except BadRule:
        return None


def _kind_of(row):
    """The KIND of the row, or None."""
    words = row.split(" ")
    numbers = numbers_of(words[1:])
    if numbers is None:
        return None
    try:
        return need_kind((words[0],) + numbers)
    except BadKind:
        return None
