"""Whether a LINE RULE tells everybody though some are missing, and papers that show it."""

from callsdown.checks import MOST_NUMBER, is_absence, is_ascending, is_number, need_away
from callsdown.errors import BadPaper
from callsdown.steps import need_rule, tick_of


def is_safe(rule, away):
    """Whether the rule is SAFE with so many missing."""
    need_rule(rule)
    need_away(away)
    return away < _first_gap(rule) - 1


def strength(rule):
    """The greatest number of missing ones with which the rule is SAFE, or None."""
    need_rule(rule)
    gap = _first_gap(rule)
    return None if gap == 1 else gap - 2


def lost(rule, away):
    """The least pair (WHO, ABSENCE) of one who is not TOLD, or None."""
    if is_safe(rule, away):
        return None
    # All below the gap are called by 0 itself, so it takes just these to lose somebody, and the gap first.
    gap = _first_gap(rule)
    return (gap, tuple(range(1, gap)))


def safe_paper(rule, away):
    """A paper that shows who is lost, or that the rule is SAFE."""
    pair = lost(rule, away)
    if pair is None:
        return ("safe", _table_of(rule, away))
    who, absent = pair
    return ("lost", absent, who)


def check_safe(rule, away, paper):
    """The word of the paper, if it holds."""
    need_rule(rule)
    need_away(away)
    word = _word_of(paper)
    if word == "lost" and not _is_loss(rule, away, paper[1], paper[2]):
        raise BadPaper("lost")
    if word == "safe" and not _is_table(rule, away, paper[1]):
        raise BadPaper("safe")
    return word


def _first_gap(rule):
    """The least number from 1 on that is no STEP."""
    gap = 1
    while gap in rule:
        gap += 1
    return gap


def _first_pair(rule, away):
    """The pair of a TABLE that stands for the person 0 alone."""
    return ((0,) * (max(rule) - 1) + (1,), away)


def _pairs_behind(pair):
    """The pairs that a TABLE has, too, if it has this one."""
    bits, left = pair
    pairs = [(bits[1:] + (1,), left)]
    if left > 0:
        pairs.append((bits[1:] + (0,), left - 1))
    return pairs


def _table_of(rule, away):
    """The TABLE of what the first pair brings with it, and nothing more."""
    first = _first_pair(rule, away)
    found = {first: True}
    fresh = [first]
    while fresh:
        pair = fresh.pop()
        for behind in _pairs_behind(pair):
            if behind not in found:
                found[behind] = True
                fresh.append(behind)
    return tuple(sorted(list(found)))


def _word_of(paper):
    """The word of the paper, if it has the form that goes with it."""
    if isinstance(paper, tuple) and len(paper) in (2, 3) and isinstance(paper[0], str):
        word = paper[0]
        if word == "lost" and len(paper) == 3:
            return word
        if word == "safe" and len(paper) == 2:
            return word
    raise BadPaper("form")


def _is_loss(rule, away, absent, who):
    """Whether that person is not missing, and not TOLD, with that ABSENCE of at most so many."""
    if not is_absence(absent, away) or not is_number(who, 0, MOST_NUMBER):
        return False
    return who not in absent and tick_of(rule, absent, who) is None


def _is_pair(rule, away, thing):
    """Whether the thing is a pair (BITS, LEFT)."""
    if not isinstance(thing, tuple) or len(thing) != 2:
        return False
    bits, left = thing
    if not isinstance(bits, tuple) or len(bits) != max(rule):
        return False
    return all([is_number(bit, 0, 1) for bit in bits]) and is_number(left, 0, away)


def _is_called(rule, pair):
    """Whether somebody calls the person behind the BITS of the pair."""
    bits, _ = pair
    return any([bits[-step] == 1 for step in rule])


def _is_table(rule, away, table):
    """Whether the thing is a TABLE."""
    if not isinstance(table, tuple) or not all([_is_pair(rule, away, pair) for pair in table]):
        return False
    if not is_ascending(table) or _first_pair(rule, away) not in table:
        return False
    held = {pair: True for pair in table}
    closed = all([behind in held for pair in table for behind in _pairs_behind(pair)])
    return closed and all([_is_called(rule, pair) for pair in table])
