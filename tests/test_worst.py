import random
import unittest

from callsdown.errors import BadKind, BadPaper, OutOfPlace
from callsdown.ticks import last_tick
from callsdown.worst import check_worst, worst_lot, worst_paper, worst_tick
from tests.plain_trees import KINDS, all_lots, parted, played
from tests.wrong import BAD_MISSING, FAR, NO_LOTS, refuse, refuse_each


def plain_worst(kind, people, most_missing):
    """For each number of missing ones the greatest LAST tick of all LOTS of at most so many."""
    worst = [0] * (most_missing + 1)
    for lot in all_lots(people, most_missing):
        last = max(played(kind, people, lot).told.values())
        for missing in range(len(lot), most_missing + 1):
            worst[missing] = max(worst[missing], last)
    return worst


def plain_leads(kind, handed, missing):
    """All (P, M, C) to which a call C of one who is handed so many leads, by going through all courses."""
    found = set()

    def go_on(parts, call, vain):
        if parts:
            size = len(parts[0])
            found.add((size - 1, missing - vain, call))
            go_on(parts[1:], call + 1, vain)
            if vain < missing:
                rest = parts[0][1:]
                if kind[0] == "heap":
                    # The shape of a heap hangs on how many there are: take one of that size.
                    left = parted(kind, 0, list(range(1, len(rest) + 1)))
                else:
                    left = [rest] if rest else []
                go_on(left + parts[1:], call + 1, vain + 1)

    go_on(parted(kind, 0, list(range(1, handed + 1))), 1, 0)
    return found


def is_int(thing, low):
    return type(thing) is int and thing >= low


def holds(kind, people, missing, last, bounds):
    """The words of the document on BOUNDS."""
    if type(bounds) is not tuple:
        return False
    for triple in bounds:
        if type(triple) is not tuple or len(triple) != 3 or not all(is_int(one, 0) for one in triple):
            return False
        if triple[0] > people - 1 or triple[1] > missing:
            return False
    if list(bounds) != sorted(bounds) or len({triple[:2] for triple in bounds}) != len(bounds):
        return False
    if (people - 1, missing, last) not in bounds:
        return False
    held = {(handed, left): bound for handed, left, bound in bounds}
    for handed, left, bound in bounds:
        for size, rest, call in plain_leads(kind, handed, left):
            if (size, rest) not in held or held[size, rest] > bound - call:
                return False
    return True


def due(kind, people, missing, paper):
    """The tick that the paper has to give, or the part with which it has to be refused."""
    if type(paper) is not tuple or len(paper) != 2:
        return None, "form"
    lot, bounds = paper
    if type(lot) is not tuple or len(lot) > missing or not all(is_int(one, 1) and one < people for one in lot):
        return None, "lot"
    if list(lot) != sorted(set(lot)):
        return None, "lot"
    last = max(played(kind, people, lot).told.values())
    return (last, None) if holds(kind, people, missing, last, bounds) else (None, "bounds")


def otherwise(people, missing, bounds, draw):
    """Bounds with something otherwise than in these."""
    found = [(), None, True, list(bounds), set(bounds), bounds[::-1], bounds[1:], bounds[:-1], bounds + bounds, "ab", 7]
    found += [bounds + (bounds[-1],), bounds + ((),), bounds + (None,), (1,) + bounds, bounds + (bounds[-1][:2],)]
    found.append(tuple((handed, left, bound + 1) for handed, left, bound in bounds))
    found.append(tuple((handed, left, bound + 1 if handed < people - 1 else bound) for handed, left, bound in bounds))
    found.append(tuple((handed, left, max(0, bound - 1)) for handed, left, bound in bounds))
    for at, (handed, left, bound) in enumerate(bounds):
        news = [(handed, left, bound + more) for more in (-1, 1, 2, 10)] + [(handed, left, 10 ** 999)]
        news += [(handed, left, -1), (handed, left, True), (handed, left, None), (handed, left, str(bound)), (handed, left)]
        news += [(True, left, bound), (handed, False, bound), (handed + 1, left, bound), (handed, left + 1, bound)]
        news += [(-1, left, bound), (handed, -1, bound), (people, left, bound), (handed, missing + 1, bound)]
        news += [[handed, left, bound], (handed, left, bound, 0), (handed, left, float(bound)), None, (handed, left, [])]
        found += [bounds[:at] + (new,) + bounds[at + 1:] for new in (news if at < 4 else draw.sample(news, 4))]
        found += [bounds[:at] + bounds[at + 1:], bounds[:at] + ((handed, left, bound + 1),) + bounds[at:]]
        found.append(bounds[:at + 1] + ((handed, left, bound + 1),) + bounds[at + 1:])
        found.append(tuple(sorted(bounds[:at] + ((handed, left, bound + 1),) + bounds[at + 1:])))
    for _ in range(6):
        more = tuple(draw.randrange(0, most + 1) for most in (people - 1, missing, 2 * people))
        found.append(tuple(sorted(set(bounds + (more,)))))
    # All of them, with bounds that hold and are greater than they need be, but for the last one.
    every = {(handed, left): 3 * handed for handed in range(people) for left in range(missing + 1)}
    every.update({triple[:2]: triple[2] for triple in bounds})
    found.append(tuple(sorted((handed, left, bound) for (handed, left), bound in every.items())))
    found.append(found[-1] + ((people, 0, 3 * people),))
    return found


class Worst(unittest.TestCase):
    def test_few_people_against_all_lots(self):
        for kind in KINDS:
            for people in range(1, 11):
                worst = plain_worst(kind, people, 3)
                for missing in range(4):
                    self.assertEqual(worst_tick(kind, people, missing), worst[missing], (kind, people, missing))

    def test_more_people_against_all_lots(self):
        draw = random.Random(211)
        for kind in KINDS:
            for people in draw.sample(range(11, 34), 3):
                worst = plain_worst(kind, people, 2)
                for missing in range(3):
                    self.assertEqual(worst_tick(kind, people, missing), worst[missing], (kind, people, missing))

    def test_the_worst_lot_has_the_worst_tick(self):
        draw = random.Random(223)
        far = [FAR, FAR - 1, 2 ** 99, 2 ** 99 - 1] + [draw.randrange(10 ** at) + 1 for at in (3, 5, 8, 13, 21, 30)]
        for kind in KINDS:
            for people in list(range(1, 40)) + draw.sample(far, 3):
                last = last_tick(kind, people, ())
                for missing in range(4):
                    lot = worst_lot(kind, people, missing)
                    self.assertLessEqual(len(lot), missing)
                    worst = worst_tick(kind, people, missing)
                    self.assertEqual(last_tick(kind, people, lot), worst, (kind, people, missing))
                    self.assertGreaterEqual(worst, last)
                    last = worst

    def test_no_lot_of_many_people_is_worse(self):
        draw = random.Random(227)
        for kind in KINDS:
            for people in (draw.randrange(100, 2000), draw.randrange(FAR), FAR):
                for missing in (1, 2, 3):
                    worst = worst_tick(kind, people, missing)
                    for _ in range(6):
                        lot = {draw.randrange(1, min(people, draw.choice((9, 99, FAR)))) for _ in range(missing)}
                        self.assertLessEqual(last_tick(kind, people, tuple(sorted(lot))), worst)

    def test_with_nobody_missing_it_is_the_last_tick(self):
        for kind in KINDS:
            for people in list(range(1, 50)) + [FAR, FAR - 1]:
                self.assertEqual(worst_tick(kind, people, 0), last_tick(kind, people, ()))
                self.assertEqual(worst_lot(kind, people, 0), ())

    def test_known_ones(self):
        self.assertEqual([worst_tick(("parts", 2), 7, missing) for missing in range(4)], [4, 5, 6, 6])
        self.assertEqual([worst_tick(("half",), 2, missing) for missing in range(4)], [1, 1, 1, 1])
        self.assertEqual([worst_tick(("half",), 2 ** 99, missing) for missing in range(4)], [99, 100, 101, 102])
        self.assertEqual(worst_lot(kind=("half",), people=1, missing=3), ())
        self.assertEqual(worst_tick(kind=("heap", 8), people=1, missing=3), 0)


class Papers(unittest.TestCase):
    def compare(self, kind, people, missing, paper):
        tick, part = due(kind, people, missing, paper)
        if part is None:
            self.assertEqual(check_worst(kind, people, missing, paper), tick, (kind, people, missing, paper))
        else:
            refuse(self, lambda: check_worst(kind, people, missing, paper), BadPaper, part)
        return part

    def test_the_own_paper_holds(self):
        for kind in KINDS:
            for people in range(1, 15):
                for missing in range(4):
                    paper = worst_paper(kind, people, missing)
                    self.assertIsNone(self.compare(kind, people, missing, paper))
                    self.assertEqual(check_worst(kind, people, missing, paper), worst_tick(kind, people, missing))

    def test_bounds_with_something_otherwise(self):
        draw = random.Random(229)
        parts = []
        for kind in KINDS:
            for people in [1, 2, 4] + draw.sample(range(5, 19), 2):
                missing = draw.randrange(4)
                lot, bounds = worst_paper(kind, people, missing)
                for one in otherwise(people, missing, bounds, draw):
                    parts.append(self.compare(kind, people, missing, (lot, one)))
        self.assertGreater(parts.count(None), 500)
        self.assertGreater(parts.count("bounds"), 3000)

    def test_another_lot(self):
        parts = []
        for kind in KINDS:
            for people, missing in ((6, 1), (9, 2), (8, 3)):
                _, bounds = worst_paper(kind, people, missing)
                for lot in all_lots(people, 4):
                    parts.append(self.compare(kind, people, missing, (lot, bounds)))
                for lot in NO_LOTS + [(people,), (1, people), (people - 1, people)]:
                    self.assertEqual(self.compare(kind, people, missing, (lot, bounds)), "lot")
                    self.assertEqual(self.compare(kind, people, missing, (lot, None)), "lot")
        for part in (None, "lot", "bounds"):
            self.assertGreater(parts.count(part), 100)

    def test_a_lesser_last_tick_with_bounds_that_have_it_too(self):
        # The bound of all must be the tick of the lot: no greater one, though it would hold.
        lot, bounds = worst_paper(("parts", 2), 7, 1)
        self.assertEqual(bounds[-1], (6, 1, 5))
        more = bounds[:-1] + ((6, 1, 6),)
        self.assertEqual(self.compare(("parts", 2), 7, 1, (lot, more)), "bounds")
        self.assertEqual(self.compare(("parts", 2), 7, 1, ((), bounds)), "bounds")
        self.assertEqual(self.compare(("parts", 2), 7, 1, ((), bounds[:-1] + ((6, 1, 4),))), "bounds")

    def test_what_has_no_form(self):
        lot, bounds = worst_paper(("half",), 9, 2)
        for paper in (
            None, True, 1, "ab", b"ab", [], [lot, bounds], (), (lot,), (lot, bounds, 1), lot, {lot: bounds}, {1: 2, 3: 4}, {1, 2},
        ):
            if paper != lot or len(lot) != 2:
                self.assertEqual(self.compare(("half",), 9, 2, paper), "form")
        refuse(self, lambda: check_worst(("half",), 9, 2, (bounds, lot)), BadPaper, "lot")

    def test_great_numbers(self):
        draw = random.Random(233)
        for kind in KINDS:
            for people in (FAR, draw.randrange(FAR)):
                missing = draw.randrange(4)
                lot, bounds = worst_paper(kind, people, missing)
                worst = worst_tick(kind, people, missing)
                self.assertEqual(check_worst(kind, people, missing, (lot, bounds)), worst)
                self.assertIn((people - 1, missing, worst), bounds)
                self.assertLess(len(bounds), 100 * 30)
                at = draw.randrange(len(bounds))
                # Each of the bounds is needed, and is as low as can be.
                refuse(self, lambda: check_worst(kind, people, missing, (lot, bounds[:at] + bounds[at + 1:])), BadPaper, "bounds")
                handed, left, bound = bounds[at]
                less = bounds[:at] + ((handed, left, bound - 1),) + bounds[at + 1:]
                refuse(self, lambda: check_worst(kind, people, missing, (lot, less)), BadPaper, "bounds")
                if missing:
                    refuse(self, lambda: check_worst(kind, people, 0, (lot, bounds)), BadPaper, "lot" if lot else "bounds")

    def test_equal_calls_give_the_same(self):
        for kind in KINDS:
            self.assertEqual(worst_paper(kind, 99, 3), worst_paper(kind, 99, 3))
            self.assertEqual(worst_lot(kind, 99, 2), worst_lot(kind, 99, 2))


class Arguments(unittest.TestCase):
    def test_wrong_ones(self):
        for kind in (("half",), ("heap", 2)):
            for function in (worst_tick, worst_lot, worst_paper):
                refuse_each(self, function, ("kind", "people", "missing"), {"kind": kind}, {"missing": BAD_MISSING})
            good = {"kind": kind, "paper": worst_paper(kind, 6, 2)}
            refuse_each(self, check_worst, ("kind", "people", "missing", "paper"), good)

    def test_papers_come_last(self):
        refuse(self, lambda: check_worst(("half", 2), 6, 2, None), BadKind, "number")
        refuse(self, lambda: check_worst(paper=None, missing=4, people=6, kind=("half",)), OutOfPlace, None)
        refuse(self, lambda: check_worst(paper=((0,), ()), missing=3, people=6, kind=("half",)), BadPaper, "lot")


if __name__ == "__main__":
    unittest.main()
