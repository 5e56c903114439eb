"""A desk that answers lines about a rule, a scaled rule and a kind."""

from callsdown.best import least_tick
from callsdown.errors import BadKind, BadRule, BadText, OutOfPlace
from callsdown.latest import latest
from callsdown.losses import is_safe, lost, strength
from callsdown.scales import first_never, tick_at
from callsdown.steps import tick_of
from callsdown.texts import read_kind, read_rule, read_scaled
from callsdown.ticks import told_at
from callsdown.words import numbers_of
from callsdown.worst import worst_tick

REFUSED = "no"


def _shown(worth):
    """The answer that tells a number, or None."""
    return "none" if worth is None else str(worth)


def _safe(rule, numbers):
    """Whether the rule is safe with so many missing."""
    return "safe" if is_safe(rule, numbers[0]) else "lost"


def _strength(rule, _):
    """With how many missing the rule is safe."""
    return _shown(strength(rule))


def _lost(rule, numbers):
    """Who is lost with so many missing, and with whom."""
    pair = lost(rule, numbers[0])
    if pair is None:
        return _shown(None)
    who, absent = pair
    return " ".join([str(person) for person in (who,) + absent])


def _latest(rule, numbers):
    """The latest tick with so many missing of so many people."""
    return _shown(latest(rule, numbers[0], numbers[1]))


def _tick(rule, numbers):
    """When the person is told by the rule."""
    return _shown(tick_of(rule, numbers[1:], numbers[0]))


def _never(scaled, _):
    """Who is never told by the scaled rule."""
    return _shown(first_never(scaled))


def _at(scaled, numbers):
    """When the person is told by the scaled rule."""
    return _shown(tick_at(scaled, numbers[0]))


def _told(kind, numbers):
    """When, of so many people, the person is told by the kind."""
    return _shown(told_at(kind, numbers[0], numbers[2:], numbers[1]))


def _worst(kind, numbers):
    """The worst tick of so many people with so many missing."""
    return _shown(worst_tick(kind, numbers[0], numbers[1]))


def _least(_, numbers):
    """The least tick of so many people."""
    return _shown(least_tick(numbers[0], None))


# For the first word of a line: what it wants, how many numbers follow at least and at most, and what answers it.
QUESTIONS = {
    "safe": ("rule", 1, 1, _safe),
    "strength": ("rule", 0, 0, _strength),
    "lost": ("rule", 1, 1, _lost),
    "latest": ("rule", 2, 2, _latest),
    "tick": ("rule", 1, 5, _tick),
    "never": ("scaled", 0, 0, _never),
    "at": ("scaled", 1, 1, _at),
    "told": ("kind", 2, 5, _told),
    "worst": ("kind", 2, 2, _worst),
    "least": ("nothing", 1, 1, _least),
}


class Desk:
    """What was told last, and the answers to lines."""

    def __init__(self):
        self._rule = None
        self._scaled = None
        self._kind = None

    @property
    def rule(self):
        """The LINE RULE that was told last, or None."""
        return self._rule

    @property
    def scaled(self):
        """The SCALED RULE that was told last, or None."""
        return self._scaled

    @property
    def kind(self):
        """The KIND that was told last, or None."""
        return self._kind

    def say(self, line):
        """The answer to the line."""
        if not isinstance(line, str):
            raise OutOfPlace("line is no string")
        try:
            return self._answer(line)
        except (BadKind, BadRule, BadText, OutOfPlace):
            return REFUSED

    def _answer(self, line):
        """The answer to the line, or an error if there is none."""
        word, _, text = line.partition(" ")
        if word in ("rule", "scaled", "kind"):
            return self._take(word, text)
        words = line.split(" ")
        if words[0] not in QUESTIONS:
            raise OutOfPlace("there is no line with this word")
        wanted, least, most, question = QUESTIONS[words[0]]
        numbers = numbers_of(words[1:])
        if numbers is None or not least <= len(numbers) <= most:
            raise OutOfPlace("the words do not go with the first one")
        # Without what is wanted the question refuses None.
        held = {"rule": self._rule, "scaled": self._scaled, "kind": self._kind, "nothing": None}
        return question(held[wanted], numbers)

    def _take(self, word, text):
        """Takes what the text tells, behind its word."""
        if word == "rule":
            self._rule = read_rule(text)
        elif word == "scaled":
            self._scaled = read_scaled(text)
        else:
            self._kind = read_kind(text)
        return "done"
