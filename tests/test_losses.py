import random
import unittest
from itertools import product

from callsdown.errors import BadPaper
from callsdown.losses import check_safe, is_safe, lost, safe_paper, strength
from tests.plain import FarTicks, all_absences, all_rules, told_ticks
from tests.wrong import FAR, refuse, refuse_each

PEOPLE = 9
NO_NUMBERS = (True, False, None, "1", 1.0, 2, -1, [1], (1,))
SOME_RULES = all_rules(3) + [(4, 1), (1, 4), (2, 1, 4), (1, 2, 3, 4), (4, 3, 2, 1), (1, 2, 5), (5,), (2, 6), (6, 1, 2, 3)]


def least_lost(rule):
    """For each AWAY from 0 to 4 the least pair of one who is lost, by a search through all that are near."""
    least = [None] * 5
    for absent in all_absences(PEOPLE - 1):
        told = told_ticks(rule, absent, PEOPLE)
        others = [who for who in range(PEOPLE) if who not in told and who not in absent]
        for away in range(len(absent), 5):
            pairs = [(who, absent) for who in others] + [least[away]]
            least[away] = min([pair for pair in pairs if pair is not None], default=None)
    return least


def is_int(thing, low, high):
    return type(thing) is int and low <= thing <= high


def holds_lost(rule, away, absent, who):
    """The words of the document on a paper of the kind lost."""
    if type(absent) is not tuple or len(absent) > away or not all(is_int(one, 1, FAR) for one in absent):
        return False
    if any(one >= behind for one, behind in zip(absent, absent[1:])) or not is_int(who, 0, FAR):
        return False
    return who not in absent and FarTicks(rule).tick(absent, who) is None


def holds_safe(rule, away, table):
    """The words of the document on a paper of the kind safe."""
    reach = max(rule)
    if type(table) is not tuple:
        return False
    for pair in table:
        if type(pair) is not tuple or len(pair) != 2 or type(pair[0]) is not tuple or len(pair[0]) != reach:
            return False
        if not all(is_int(bit, 0, 1) for bit in pair[0]) or not is_int(pair[1], 0, away):
            return False
    if list(table) != sorted(set(table)) or ((0,) * (reach - 1) + (1,), away) not in table:
        return False
    for bits, left in table:
        if left and (bits[1:] + (0,), left - 1) not in table:
            return False
        if (bits[1:] + (1,), left) not in table or not any(bits[reach - step] for step in rule):
            return False
    return True


def brought(pairs):
    """The pairs with all that must stand with them, as a TABLE."""
    found = set()
    fresh = list(pairs)
    while fresh:
        bits, left = fresh.pop()
        if (bits, left) not in found:
            found.add((bits, left))
            fresh.append((bits[1:] + (1,), left))
            if left:
                fresh.append((bits[1:] + (0,), left - 1))
    return tuple(sorted(found))


def due(rule, away, paper):
    """The word that the paper has to give, or the part that it has to be refused with, by the document's words."""
    if type(paper) is tuple and len(paper) == 3 and type(paper[0]) is str and paper[0] == "lost":
        return ("lost", None) if holds_lost(rule, away, paper[1], paper[2]) else (None, "lost")
    if type(paper) is tuple and len(paper) == 2 and type(paper[0]) is str and paper[0] == "safe":
        return ("safe", None) if holds_safe(rule, away, paper[1]) else (None, "safe")
    return (None, "form")


def swapped(things, at, *others):
    """The tuple with the thing at that place replaced by the others."""
    return things[:at] + others + things[at + 1:]


def tables_like(table, rule, away, draw):
    """Tables with something otherwise than in this one."""
    reach = max(rule)
    found = [None, True, 1, "safe", list(table), set(table), {pair: True for pair in table}, (), table + table]
    found += [table[::-1], table[1:], table[:-1], table + ((),), table + (None,), (True,) + table]
    for at, (bits, left) in enumerate(table):
        found += [swapped(table, at), swapped(table, at, table[at], table[at]), swapped(table, at, [bits, left])]
        found += [swapped(table, at, thing) for thing in ((bits, left, left), (bits,), bits, left, (left, bits))]
        found += [swapped(table, at, (bits, thing)) for thing in NO_NUMBERS + (away + 1, left + 1, left - 1)]
        found += [swapped(table, at, (thing, left)) for thing in (bits[1:], bits + (1,), (0,) + bits, list(bits), 1, None)]
        for place in range(reach):
            found += [swapped(table, at, (swapped(bits, place, thing), left)) for thing in NO_NUMBERS + (0, 1)]
    for at in range(len(table) - 1):
        found.append(table[:at] + (table[at + 1], table[at]) + table[at + 2:])
    every = list(product(product((0, 1), repeat=reach), range(away + 1)))
    for pair in draw.sample(every, min(40, len(every))):
        found.append(tuple(sorted(table + (pair,))))
        found.append(brought(table + (pair,)))
    return found


def losses_like(absent, who, away):
    """Papers of the kind lost with something otherwise than in this one."""
    absences = [None, True, 1, list(absent), set(absent), (), absent[1:], absent[:-1], absent[::-1], absent + absent]
    absences += [absent + (who,), absent + (who + 1,), absent + (FAR,), absent + (FAR + 1,), (0,) + absent, (True,)]
    absences += [tuple(range(1, many)) for many in range(1, 8)] + [(1, 2.0), (1, "2"), (1, None), (-1, 1), (2, 1)]
    absences += all_absences(4)
    people = [None, True, False, "1", 1.0, [who], (who,), -1, FAR, FAR + 1, FAR - 1] + list(range(9))
    found = [("lost", one, who) for one in absences] + [("lost", absent, one) for one in people]
    return found + [("lost", one, person) for one in absences for person in (who + 1, 1, FAR)]


class LikeAll:
    """What calls itself equal to everything."""

    def __eq__(self, other):
        return True


class Answers(unittest.TestCase):
    def test_all_against_a_plain_search(self):
        for rule in all_rules():
            least = least_lost(rule)
            safe = [away for away in range(5) if least[away] is None]
            with self.subTest(rule=rule):
                self.assertEqual(strength(rule), max(safe, default=None))
                for away in range(5):
                    self.assertIs(is_safe(rule, away), away in safe)
                    self.assertEqual(lost(rule, away), least[away])

    def test_a_rule_is_safe_exactly_if_what_the_first_pair_brings_is_a_table(self):
        for rule in all_rules():
            for away in range(5):
                table = brought([((0,) * (max(rule) - 1) + (1,), away)])
                self.assertEqual(is_safe(rule, away), holds_safe(rule, away, table), (rule, away))

    def test_known_ones(self):
        self.assertEqual(strength((1,)), 0)
        self.assertEqual(strength((2, 1)), 1)
        self.assertEqual(strength((3, 1, 2)), 2)
        self.assertEqual(strength((4, 3, 2, 1)), 3)
        self.assertIsNone(strength((2, 3)))
        self.assertEqual(strength(rule=(6, 1)), 0)
        self.assertEqual(lost((2, 3), 0), (1, ()))
        self.assertEqual(lost((2, 3), 4), (1, ()))
        self.assertEqual(lost((1, 3), 1), (2, (1,)))
        self.assertEqual(lost((4, 3, 2, 1), 4), (5, (1, 2, 3, 4)))
        self.assertIsNone(lost((4, 3, 2, 1), 3))
        self.assertIs(is_safe((1, 2), 1), True)
        self.assertIs(is_safe((1, 2), 2), False)


class Papers(unittest.TestCase):
    def test_all_papers_are_as_told_and_hold(self):
        for rule in all_rules():
            for away in range(5):
                paper = safe_paper(rule, away)
                pair = lost(rule, away)
                if pair is None:
                    first = ((0,) * (max(rule) - 1) + (1,), away)
                    self.assertEqual(paper, ("safe", brought([first])))
                else:
                    self.assertEqual(paper, ("lost", pair[1], pair[0]))
                self.assertEqual(check_safe(rule, away, paper), paper[0])
                self.assertEqual(safe_paper(rule, away), paper)

    def test_known_ones(self):
        self.assertEqual(safe_paper((1,), 0), ("safe", (((1,), 0),)))
        self.assertEqual(safe_paper((1,), 1), ("lost", (1,), 2))
        self.assertEqual(safe_paper((2, 1), 0), ("safe", (((0, 1), 0), ((1, 1), 0))))
        table = (((0, 1), 0), ((0, 1), 1), ((1, 0), 0), ((1, 1), 0), ((1, 1), 1))
        self.assertEqual(safe_paper((2, 1), 1), ("safe", table))

    def test_a_paper_of_another_rule_or_away(self):
        for rule, other in product(SOME_RULES, repeat=2):
            for away in (0, 1, 3):
                self.compare(rule, away, safe_paper(other, away))
                self.compare(rule, away, safe_paper(other, 4 - away))

    def compare(self, rule, away, paper):
        word, part = due(rule, away, paper)
        if part is None:
            self.assertEqual(check_safe(rule, away, paper), word)
            return word
        with self.assertRaises(BadPaper) as held:
            check_safe(rule, away, paper)
        self.assertEqual(held.exception.part, part, (rule, away, paper))
        return None

    def test_tables_with_something_otherwise(self):
        draw = random.Random(13)
        held = []
        for rule in SOME_RULES:
            for away in range(5):
                table = brought([((0,) * (max(rule) - 1) + (1,), away)])
                if len(table) > 24 and away != strength(rule):
                    continue
                tables = tables_like(table, rule, away, draw)
                for one in draw.sample(tables, min(300, len(tables))):
                    held.append(self.compare(rule, away, ("safe", one)))
        self.assertGreater(held.count("safe"), 50)
        self.assertGreater(held.count(None), 5000)

    def test_each_thing_that_is_otherwise_in_one_table(self):
        rule = (2, 1)
        table = safe_paper(rule, 1)[1]
        for one in tables_like(table, rule, 1, random.Random(17)):
            with self.subTest(table=one):
                self.compare(rule, 1, ("safe", one))

    def test_a_pair_too_many_holds_with_what_it_brings(self):
        table = safe_paper((1,), 0)[1]
        refuse(self, lambda: check_safe((1,), 0, ("safe", (((0,), 0),) + table)), BadPaper, "safe")
        rule = (1, 2, 3)
        table = safe_paper(rule, 0)[1]
        pair = ((0, 1, 0), 0)
        refuse(self, lambda: check_safe(rule, 0, ("safe", tuple(sorted(table + (pair,))))), BadPaper, "safe")
        self.assertEqual(check_safe(rule, 0, ("safe", brought(table + (pair,)))), "safe")
        refuse(self, lambda: check_safe(rule, 0, ("safe", brought(table + (((0, 0, 0), 0),)))), BadPaper, "safe")

    def test_pairs_of_another_kind_do_not_hold_though_all_stands_with_them(self):
        for rule, away in (((1,), 0), ((2, 1), 0), ((2, 1), 1), ((1, 3, 2), 1)):
            table = safe_paper(rule, away)[1]
            ones = (1,) * max(rule)
            for pair in ((ones, away + 1), (ones + (1,), away), (ones + (1,), 0), (ones[1:], 0)):
                self.assertIsNone(self.compare(rule, away, ("safe", brought(table + (pair,)))))

    def test_losses_with_something_otherwise(self):
        held = []
        for rule in SOME_RULES[:12] + SOME_RULES[-9:]:
            for away in range(5):
                who, absent = lost(rule, away) or (5, (1, 2, 3, 4)[:away])
                for paper in losses_like(absent, who, away):
                    with self.subTest(rule=rule, away=away, paper=paper):
                        held.append(self.compare(rule, away, paper))
        self.assertGreater(held.count("lost"), 500)
        self.assertGreater(held.count(None), 5000)

    def test_known_losses(self):
        rule = (1, 2)
        self.assertEqual(check_safe(rule, 2, ("lost", (FAR - 2, FAR - 1), FAR)), "lost")
        self.assertEqual(check_safe(rule, 2, ("lost", (7, 8), FAR)), "lost")
        self.assertEqual(check_safe(rule, 3, ("lost", (7, 8, 11), 9)), "lost")
        for away, absent, who in (
            (1, (7, 8), 9), (2, (7, 8), 8), (2, (7, 8), 6), (2, (7, 8), 0), (2, (7, 9), 10), (2, (FAR - 1, FAR), FAR),
            (2, (8, 7), 9), (2, [7, 8], 9), (2, (7, 8), True), (2, (7, 8), FAR + 1), (4, (1, 2, 3, 4, 5), 6),
        ):
            refuse(self, lambda: check_safe(rule, away, ("lost", absent, who)), BadPaper, "lost")

    def test_what_has_no_form(self):
        good = ((1,), 2)
        for paper in (
            None, True, 1, "lost", "safe", "ab", "abc", b"safe", [], (), ("lost",), ("safe",), ("lost", (1,)),
            ["lost", (1,), 2], ["safe", good], ("safe", good, 1), ("lost", (1,), 2, 3), ("Lost", (1,), 2), (b"lost", (1,), 2),
            (None, (1,), 2), (True, good), (["safe"], good), (("safe",), good), ("safe", (1,), 2), ("lost", good),
            ("", good), ("lost ", (1,), 2), {"safe": good, "lost": good}, {"lost", "safe"}, (1, 2), (1, 2, 3),
            (LikeAll(), (1,), 2), (LikeAll(), good), LikeAll(),
        ):
            with self.subTest(paper=paper):
                refuse(self, lambda: check_safe((1,), 1, paper), BadPaper, "form")
                refuse(self, lambda: check_safe(rule=(1,), away=1, paper=paper), BadPaper, "form")


class Arguments(unittest.TestCase):
    def test_wrong_ones(self):
        refuse_each(self, is_safe, ("rule", "away"))
        refuse_each(self, strength, ("rule",))
        refuse_each(self, lost, ("rule", "away"))
        refuse_each(self, safe_paper, ("rule", "away"))
        refuse_each(self, check_safe, ("rule", "away", "paper"), {"paper": safe_paper((1, 2), 1)})


if __name__ == "__main__":
    unittest.main()
