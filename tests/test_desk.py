import random
import re
import unittest

from callsdown.best import least_tick
from callsdown.desk import Desk
from callsdown.errors import BadKind, BadRule, BadText, OutOfPlace
from callsdown.latest import latest
from callsdown.losses import is_safe, lost, strength
from callsdown.scales import first_never, tick_at
from callsdown.steps import tick_of
from callsdown.texts import kind_text, read_kind, read_rule, read_scaled, rule_text, scaled_text
from callsdown.ticks import told_at
from callsdown.worst import worst_tick
from tests.plain import all_rules
from tests.plain_scaled import KNOWN
from tests.plain_trees import KINDS
from tests.wrong import FAR, refuse

NUMBER = "(?:0|[1-9][0-9]{0,30})"
NO_STRINGS = (True, False, None, 0, 1, b"strength", b"", ["strength"], [], ("rule", "1 2"), (), {}, {"never"}, 1.0, object(), Desk)
# What asks the desk for each line: what it wants, how many numbers may follow, and the answer of the package.
LINES = {
    "safe": ("rule", (1,), lambda rule, away: "safe" if is_safe(rule, away) else "lost"),
    "strength": ("rule", (0,), lambda rule: shown(strength(rule))),
    "lost": ("rule", (1,), lambda rule, away: "none" if lost(rule, away) is None else row(lost(rule, away))),
    "latest": ("rule", (2,), lambda rule, away, people: shown(latest(rule, away, people))),
    "tick": ("rule", (1, 2, 3, 4, 5), lambda rule, person, *absent: shown(tick_of(rule, absent, person))),
    "never": ("scaled", (0,), lambda scaled: shown(first_never(scaled))),
    "at": ("scaled", (1,), lambda scaled, person: shown(tick_at(scaled, person))),
    "told": ("kind", (2, 3, 4, 5), lambda kind, people, person, *lot: shown(told_at(kind, people, lot, person))),
    "worst": ("kind", (2,), lambda kind, people, missing: shown(worst_tick(kind, people, missing))),
    "least": (None, (1,), lambda people: shown(least_tick(people, None))),
}
READS = {"rule": read_rule, "scaled": read_scaled, "kind": read_kind}


def shown(worth):
    return "none" if worth is None else str(worth)


def row(pair):
    who, absent = pair
    return " ".join(str(person) for person in (who, *absent))


class PlainDesk:
    """What the desk has to answer, by patterns."""

    def __init__(self):
        self.held = {"rule": None, "scaled": None, "kind": None, None: None}

    def say(self, line):
        try:
            for word, read in READS.items():
                if line.startswith(word + " "):
                    self.held[word] = read(line[len(word) + 1:])
                    return "done"
            for word, (wanted, counts, answer) in LINES.items():
                found = re.fullmatch(word + f"((?: {NUMBER})*)", line)
                if found and (wanted is None or self.held[wanted]):
                    numbers = [int(one) for one in found.group(1).split()]
                    if len(numbers) in counts:
                        return answer(*([self.held[wanted]] if wanted else []), *numbers)
        except (BadKind, BadRule, BadText, OutOfPlace):
            pass
        return "no"


def some_line(draw):
    """A line that is right, or nearly so."""
    word = draw.choice(list(LINES) + list(READS) * 2)
    if word == "rule":
        return "rule " + rule_text(draw.choice(all_rules()))
    if word == "scaled":
        return "scaled " + scaled_text(draw.choice(KNOWN))
    if word == "kind":
        return "kind " + kind_text(draw.choice(KINDS))
    count = draw.choice(LINES[word][1] + (draw.randrange(7),))
    numbers = [draw.choice((draw.randrange(3), draw.randrange(6), draw.randrange(40), FAR, FAR - 1)) for _ in range(count)]
    if word in ("tick", "told") and draw.random() < 0.7:
        numbers = numbers[:2 if word == "told" else 1] + sorted(set(numbers[2 if word == "told" else 1:]))
    return " ".join([word] + [str(number) for number in numbers])


def changed(line, draw):
    """The line with something otherwise."""
    at = draw.randrange(len(line) + 1)
    sign = draw.choice(" 0123456789+-:,.a\n\t")
    words = line.split(" ")
    place = draw.randrange(len(words) + 1)
    return draw.choice((
        line[:at] + sign + line[at:], line[:at] + line[at + 1:], line[:at] + sign + line[at + 1:],
        " ".join(words[:place] + [draw.choice(("1", "0", "-1", "", "x", "01", "half"))] + words[place:]),
        " ".join(words[:place] + words[place + 1:]), " ".join(words[::-1]), line.upper(), line + "\n",
    ))


class Say(unittest.TestCase):
    def same(self, desk, plain, line):
        ahead = (desk.rule, desk.scaled, desk.kind)
        due = plain.say(line)
        self.assertEqual(desk.say(line), due, repr(line))
        self.assertEqual((desk.rule, desk.scaled, desk.kind), (plain.held["rule"], plain.held["scaled"], plain.held["kind"]), repr(line))
        if due != "done":
            for one, other in zip((desk.rule, desk.scaled, desk.kind), ahead):
                self.assertIs(one, other)
        return due

    def test_rows_of_lines(self):
        draw = random.Random(317)
        answers = []
        for _ in range(150):
            desk, plain = Desk(), PlainDesk()
            for _ in range(40):
                line = some_line(draw)
                if draw.random() < 0.3:
                    line = changed(line, draw)
                answers.append(self.same(desk, plain, line))
        for answer in ("no", "done", "none", "safe", "lost"):
            self.assertGreater(answers.count(answer), 10)

    def test_each_line_in_each_state(self):
        lines = ["safe 1", "strength", "lost 2", "latest 0 9", "latest 1 30", "tick 7", "tick 7 3 5", "never", "at 9", "told 9 4", "told 9 4 2 3",
                 "worst 9 2", "least 9"]
        states = [()] + [("rule 1 2",), ("rule 2",), ("scaled 2:0 1",), ("scaled 3:0 1",), ("kind half",), ("kind heap 3",)]
        states += [("rule 3 1 2", "kind best 2"), ("rule 1 2", "scaled 2:1", "kind parts 8"), ("scaled 2:0", "kind half", "scaled 2:1 2")]
        for state in states:
            desk, plain = Desk(), PlainDesk()
            for line in state:
                self.assertEqual(self.same(desk, plain, line), "done")
            for line in lines * 2:
                answer = self.same(desk, plain, line)
                wanted = LINES[line.split(" ")[0]][0]
                has_it = wanted is None or any(one.startswith(wanted) for one in state)
                if not has_it:
                    self.assertEqual(answer, "no")
                elif not line.startswith("latest"):
                    self.assertNotEqual(answer, "no")

    def test_lines_with_something_otherwise(self):
        draw = random.Random(331)
        desk, plain = Desk(), PlainDesk()
        for line in ("rule 1 2 4", "scaled 3:0 1", "kind parts 3"):
            self.same(desk, plain, line)
        for _ in range(3000):
            self.same(desk, plain, changed(some_line(draw), draw))

    def test_known_ones(self):
        desk = Desk()
        for line, answer in (
            ("strength", "no"), ("least 1000", "10"), ("rule 1 2", "done"), ("strength", "1"), ("safe 1", "safe"), ("safe 2", "lost"),
            ("lost 2", "3 1 2"), ("lost 1", "none"), ("tick 7 4", "7"), ("tick 4 4", "none"), ("tick 3", "3"), ("tick 3 1 2", "none"),
            ("tick 3 2 1", "no"), ("tick 0", "0"), ("latest 1 5", "4"), ("latest 2 5", "no"), ("safe 5", "no"), ("rule 2", "done"),
            ("strength", "none"), ("lost 0", "1"), ("never", "no"), ("scaled 3:0 1", "done"), ("never", "2"), ("at 4", "4"), ("at 2", "none"),
            ("scaled 2:0 1", "done"), ("never", "none"), ("told 9 3", "no"), ("kind parts 2", "done"), ("told 7 6 1", "5"),
            ("told 7 1 1", "none"), ("told 7 7", "no"), ("worst 7 1", "5"), ("worst 7 4", "no"), ("kind half", "done"),
            (f"worst {FAR} 3", "103"), (f"least {FAR}", "100"), ("least 0", "no"), (f"told {FAR} 0", "0"), ("worst 1 3", "0"),
        ):
            self.assertEqual(desk.say(line), answer, line)
        self.assertEqual((desk.rule, desk.scaled, desk.kind), ((2,), (2, (0, 1)), ("half",)))

    def test_numbers(self):
        desk = Desk()
        desk.say("rule 1")
        self.assertEqual(desk.say("tick " + "1" + "0" * 30), "1" + "0" * 30)
        for word in ("1" + "0" * 31, "1" + "0" * 29 + "1" + "1", "0" * 31, "0" * 32, "00", "01", "+1", "-1", "-0", "1.0", "1_0", "\u0661", "\u00b2",
                     "0x1", "one", "1" * 5000, "9" * 19000, "", " 1", "1 ", "1\n", "\n1", "1\t"):
            for line in ("tick " + word, "least " + word, "safe " + word):
                self.assertEqual(desk.say(line), "no", line[:60])
        for word in ("9" * 31, "1" + "0" * 29 + "1"):
            self.assertEqual(desk.say("tick " + word), PlainDesk.say(self.with_rule(), "tick " + word))
        self.assertEqual(desk.say("tick 0"), "0")

    def with_rule(self):
        plain = PlainDesk()
        plain.say("rule 1")
        return plain

    def test_what_is_no_line(self):
        desk = Desk()
        for line in ("rule 1 2 3", "scaled 2:0 1", "kind heap 2"):
            self.assertEqual(desk.say(line=line), "done")
        for line in (
            "", " ", "\n", "no", "done", "rule", "rule ", "rule  1", " rule 1", "rule 1 1", "rule 1 ", "rule 1\n", "rule 1\n2", "Rule 1", "rules 1",
            "rule 7", "scaled", "scaled ", "scaled 2", "scaled 2: 0", "scaled 2:0 0", "scaled 2:0\n", "kind", "kind ", "kind halves", "kind half ",
            "kind half\n", "kind  half", "kind parts", "kind parts 9", "strength ", " strength", "strength 1", "strength\n", "never 1", "never ",
            "safe", "safe 1 1", "safe  1", "lost", "lost 1 2", "latest 1", "latest 1 2 3", "latest", "tick", "tick 1 2 3 4 5 6", "at", "at 1 2",
            "told 5", "told", "told 9 1 2 3 4 5", "told 9 1 3 2", "told 9 1 9", "worst 5", "worst 5 1 1", "least", "least 5 2", "least none",
            "safe AWAY", "1 2 3", "half", "2:0 1", "tick 5 0", "tick 5 3 3", "nothing 1", "rule:1", "kind:half", "x" * 20000,
        ):
            self.assertEqual(desk.say(line), "no", repr(line[:60]))
            self.assertEqual((desk.rule, desk.scaled, desk.kind), ((1, 2, 3), (2, (0, 1)), ("heap", 2)))


class Held(unittest.TestCase):
    def test_nothing_at_first_then_what_was_told_last(self):
        desk = Desk()
        self.assertIsNone(desk.rule)
        self.assertIsNone(desk.scaled)
        self.assertIsNone(desk.kind)
        desk.say("rule 4 1")
        held = desk.rule
        self.assertEqual((desk.rule, desk.scaled, desk.kind), ((4, 1), None, None))
        desk.say("rule 4 4")
        desk.say("kind half")
        self.assertIs(desk.rule, held)
        desk.say("kind best 5")
        desk.say("scaled 5:1 0")
        self.assertEqual((desk.rule, desk.scaled, desk.kind), ((4, 1), (5, (1, 0)), ("best", 5)))
        self.assertIsNone(Desk().rule)
        for name in ("rule", "scaled", "kind"):
            self.assertRaises(AttributeError, setattr, desk, name, None)

    def test_what_is_no_string(self):
        desk = Desk()
        desk.say("rule 1 2")
        for thing in NO_STRINGS:
            refuse(self, lambda: desk.say(thing), OutOfPlace, None)
            refuse(self, lambda: desk.say(line=thing), OutOfPlace, None)
        self.assertEqual((desk.rule, desk.scaled, desk.kind), ((1, 2), None, None))


if __name__ == "__main__":
    unittest.main()
