import random
import unittest
from itertools import product

from callsdown.errors import BadPaper
from callsdown.scales import check_full, first_never, full_paper
from tests.plain import all_adds, back, told_scaled
from tests.plain_scaled import FULL, KNOWN, SCALES, SOME_FULL, FarTold, some_rules
from tests.wrong import FAR, refuse, refuse_each

NO_NUMBERS = (True, False, None, "1", 1.0, 2, -1, [1], (1,))


def is_int(thing, low, high):
    return type(thing) is int and low <= thing <= high


def holds_full(scaled, table):
    """The words of the document on a paper of the kind full."""
    scale, adds = scaled
    size = back(scaled) + 1
    if type(table) is not tuple:
        return False
    for row in table:
        if type(row) is not tuple or len(row) != size or not all(is_int(bit, 0, 1) for bit in row) or row[0] != 1:
            return False
    if list(table) != sorted(set(table)):
        return False
    told = told_scaled(scaled, scale * size)
    if not all(person in told for person in range(size)):
        return False
    due = {tuple(int(person - less in told) for less in range(size)) for person in range(size, scale * size)}
    for row in table:
        due |= {behind(scaled, row, figure) for figure in range(scale)}
    return due <= set(table)


def behind(scaled, row, figure):
    """The row behind this one, for that figure."""
    scale, adds = scaled
    bits = []
    for less in range(len(row)):
        hit = [row[(less + add - figure) // scale] for add in adds if (less + add - figure) % scale == 0]
        bits.append(int(1 in hit))
    return tuple(bits)


def brought(scaled, rows):
    """The rows with all that must stand with them, as a TABLE."""
    found = set()
    fresh = list(rows)
    while fresh:
        row = fresh.pop()
        if row not in found:
            found.add(row)
            fresh.extend(behind(scaled, row, figure) for figure in range(scaled[0]))
    return tuple(sorted(found))


def due(scaled, paper):
    """The word that the paper has to give, or the part that it has to be refused with, by the document's words."""
    if type(paper) is tuple and len(paper) == 2 and type(paper[0]) is str:
        if paper[0] == "never":
            never = is_int(paper[1], 0, FAR) and FarTold(scaled).tick(paper[1]) is None
            return ("never", None) if never else (None, "never")
        if paper[0] == "full":
            return ("full", None) if holds_full(scaled, paper[1]) else (None, "full")
    return (None, "form")


def swapped(things, at, *others):
    """The tuple with the thing at that place replaced by the others."""
    return things[:at] + others + things[at + 1:]


def tables_like(table, size, draw):
    """Tables with something otherwise than in this one."""
    found = [None, True, 1, "full", list(table), set(table), {row: True for row in table}, (), table + table]
    found += [table[::-1], table[1:], table[:-1], table + ((),), table + (None,), (True,) + table, table[0]]
    for at, row in list(enumerate(table))[:6]:
        found += [swapped(table, at), swapped(table, at, row, row), swapped(table, at, list(row)), swapped(table, at, 1)]
        found += [swapped(table, at, thing) for thing in (row[1:], row[:-1], row + (1,), (1,) + row, row + (0,), (row,))]
        for place in range(size):
            found += [swapped(table, at, swapped(row, place, thing)) for thing in NO_NUMBERS + (0,)]
    for at in range(len(table) - 1):
        found.append(table[:at] + (table[at + 1], table[at]) + table[at + 2:])
    for _ in range(10):
        row = (1,) + tuple(draw.choice((0, 1)) for _ in range(size - 1))
        found.append(tuple(sorted(set(table + (row,)))))
        found.append(tuple(sorted(set(table + ((0,) + row[1:],)))))
    return found


class LikeAll:
    """What calls itself equal to everything."""

    def __eq__(self, other):
        return True


class Papers(unittest.TestCase):
    def compare(self, scaled, paper):
        word, part = due(scaled, paper)
        if part is None:
            self.assertEqual(check_full(scaled, paper), word, (scaled, paper))
            return word
        with self.assertRaises(BadPaper) as held:
            check_full(scaled, paper)
        self.assertEqual(held.exception.part, part, (scaled, paper))
        return None

    def test_the_least_one_who_is_never_told(self):
        for scaled in some_rules(101, 300) + SOME_FULL:
            told = told_scaled(scaled, 400)
            least = min((person for person in range(400) if person not in told), default=None)
            self.assertEqual(first_never(scaled), least, scaled)
            row = (1,) * (back(scaled) + 1)
            paper = ("full", (row,)) if least is None else ("never", least)
            self.assertEqual(full_paper(scaled), paper)
            self.assertEqual(check_full(scaled, paper), paper[0])
            self.assertEqual(self.compare(scaled, ("full", (row,))), "full" if least is None else None)

    def test_all_rules_of_few_adds(self):
        for scaled in (scaled for scale in SCALES for many in (1, 2, 3) for scaled in all_adds(scale, many, 12)):
            told = told_scaled(scaled, 100)
            least = min((person for person in range(100) if person not in told), default=None)
            self.assertEqual(first_never(scaled), least, scaled)

    def test_full_rules_are_full(self):
        self.assertEqual(FULL[5], [(5, (0, 1, 2, 3, 4)), (5, (1, 2, 3, 4, 5))])
        for scale in SCALES:
            self.assertGreater(len(FULL[scale]), 1)
            for scaled in FULL[scale]:
                self.assertIsNone(first_never(scaled), scaled)

    def test_known_ones(self):
        # The least one may be 0 behind BACK, or the last one below D * (BACK + 1), or BACK itself.
        for scaled, never in (
            ((2, (0,)), 1), ((2, (1,)), 2), ((3, (1,)), 2), ((3, (0, 1)), 2), ((4, (0, 1, 2)), 3), ((5, (0, 1, 2, 3)), 4),
            ((3, (1, 2)), 3), ((5, (1, 2, 3, 4)), 5), ((3, (1, 2, 7)), 3), ((4, (1, 2, 3, 14)), 4), ((5, (1, 2, 3, 4, 20)), 5),
            ((3, (1, 2, 5)), 3), ((4, (1, 2, 3, 11)), 4), ((5, (1, 2, 3, 4, 19)), 5), ((2, (1, 3, 20)), 2), ((2, (3, 0)), 1),
        ):
            self.assertEqual(first_never(scaled), never)
            self.assertEqual(full_paper(scaled), ("never", never))
        self.assertIsNone(first_never(scaled=(3, (2, 0, 1))))
        self.assertEqual(full_paper((2, (0, 1))), ("full", ((1, 1),)))
        self.assertEqual(full_paper(scaled=(2, (1, 0, 20))), ("full", ((1,) * 21,)))
        self.assertEqual(full_paper((5, (0, 1, 2, 3, 4))), ("full", ((1, 1),)))

    def test_papers_of_another_rule(self):
        rules = KNOWN + SOME_FULL[::4]
        for scaled, other in product(rules, repeat=2):
            self.compare(scaled, full_paper(other))

    def test_those_who_are_never_told(self):
        draw = random.Random(103)
        held = []
        for scaled in KNOWN + SOME_FULL:
            for who in list(range(30)) + draw.sample(range(FAR - 40, FAR), 4) + [FAR]:
                held.append(self.compare(scaled, ("never", who)))
            for who in (True, False, None, "1", 1.0, [2], (2,), -1, -FAR, FAR + 1, FAR + 2, 10 ** 999):
                self.assertIsNone(self.compare(scaled, ("never", who)))
        self.assertGreater(held.count("never"), 300)
        self.assertGreater(held.count(None), 300)

    def test_tables_with_something_otherwise(self):
        draw = random.Random(107)
        held = []
        for scaled in KNOWN + SOME_FULL:
            size = back(scaled) + 1
            for one in tables_like(((1,) * size,), size, draw):
                held.append(self.compare(scaled, ("full", one)))
        self.assertGreater(held.count(None), 3000)

    def test_greater_tables(self):
        draw = random.Random(109)
        held = []
        for scaled in SOME_FULL:
            size = back(scaled) + 1
            ones = (1,) * size
            tables = []
            for _ in range(12):
                row = (1,) + tuple(draw.choice((0, 1, 1, 1, 1)) for _ in range(size - 1))
                tables.append(brought(scaled, (ones, row)))
                held.append(self.compare(scaled, ("full", tables[-1])))
            # Some with more than one row, that hold: something is otherwise than in these.
            for table in [table for table in tables if len(table) > 1 and holds_full(scaled, table)][:2]:
                for one in draw.sample(tables_like(table, size, draw), 60):
                    held.append(self.compare(scaled, ("full", one)))
        self.assertGreater(held.count("full"), 100)
        self.assertGreater(held.count(None), 500)

    def test_a_row_too_many_holds_with_what_it_brings(self):
        scaled = (4, (0, 1, 2, 3, 17))
        ones = (1,) * 6
        self.assertEqual(check_full(scaled, ("full", (ones,))), "full")
        self.assertEqual(brought(scaled, ((1, 1, 1, 1, 1, 0),)), ((1, 1, 1, 1, 1, 0), ones))
        self.assertEqual(check_full(scaled, ("full", ((1, 1, 1, 1, 1, 0), ones))), "full")
        refuse(self, lambda: check_full(scaled, ("full", (ones, (1, 1, 1, 1, 1, 0)))), BadPaper, "full")
        refuse(self, lambda: check_full(scaled, ("full", ((1, 1, 1, 1, 1, 0),))), BadPaper, "full")
        more = brought(scaled, (ones, (1, 0, 1, 1, 1, 1)))
        self.assertEqual(check_full(scaled, ("full", more)), "full")
        for at in range(len(more)):
            self.compare(scaled, ("full", swapped(more, at)))

    def test_a_closed_table_does_not_hold_for_a_rule_that_is_not_full(self):
        # All rests are left, so ones bring ones alone, but not all below D * (BACK + 1) are told.
        for scaled in ((2, (1, 20)), (2, (0, 3)), (3, (1, 2, 3, 12)), (2, (2, 5, 7))):
            size = back(scaled) + 1
            ones = (1,) * size
            if brought(scaled, (ones,)) == (ones,) and first_never(scaled) is not None:
                self.assertIsNone(self.compare(scaled, ("full", (ones,))))
                told = told_scaled(scaled, size * scaled[0])
                rows = [tuple(int(one - less in told) for less in range(size)) for one in range(size, size * scaled[0])]
                self.assertIsNone(self.compare(scaled, ("full", brought(scaled, [ones] + rows))))

    def test_a_closed_table_does_not_hold_if_somebody_up_to_back_is_never_told(self):
        seen = 0
        for scaled in [(2, (0, 2, 3, 5)), (2, (0, 2, 3, 7))] + all_adds(2, 4, 12):
            size = back(scaled) + 1
            told = told_scaled(scaled, 2 * size)
            rows = [tuple(int(one - less in told) for less in range(size)) for one in range(size, 2 * size)]
            table = brought(scaled, rows)
            if len({row[0] for row in table}) == 1 and first_never(scaled) is not None:
                self.assertIsNone(self.compare(scaled, ("full", table)))
                seen += 1
        self.assertGreater(seen, 20)

    def test_what_has_no_form(self):
        good = ((1, 1),)
        for paper in (
            None, True, 1, "full", "never", "ab", b"ab", [], (), ("full",), ("never",), ["full", good], ["never", 3],
            ("full", good, 1), ("never", 3, 4), ("Full", good), (b"full", good), (None, 3), (True, good), (["full"], good),
            (("never",), 3), ("", 3), ("never ", 3), ("safe", good), ("lost", 3), {"full": good, "never": 3}, {"full", "never"},
            (1, 2), (1, 2, 3), (LikeAll(), good), (LikeAll(), 3), LikeAll(), (3, "never"), (good, "full"),
        ):
            with self.subTest(paper=paper):
                refuse(self, lambda: check_full((2, (0, 1)), paper), BadPaper, "form")
                refuse(self, lambda: check_full(scaled=(2, (0, 3)), paper=paper), BadPaper, "form")


class Arguments(unittest.TestCase):
    def test_wrong_ones(self):
        refuse_each(self, first_never, ("scaled",))
        refuse_each(self, full_paper, ("scaled",))
        refuse_each(self, check_full, ("scaled", "paper"), {"paper": full_paper((2, (0, 1)))})

    def test_equal_calls_give_the_same(self):
        for scaled in KNOWN:
            self.assertEqual(full_paper(scaled), full_paper(scaled))


if __name__ == "__main__":
    unittest.main()
