import random
import unittest

from callsdown.errors import BadKind, OutOfPlace
from callsdown.shapes import sizes
from callsdown.ticks import called_by, calls_of, last_tick, told_at
from tests.plain_trees import KINDS, all_lots, played, telling_lots
from tests.wrong import BAD_LOTS, BAD_PERSONS, FAR, refuse, refuse_each


class Near(unittest.TestCase):
    def compare(self, kind, people, lot):
        plain = played(kind, people, lot)
        for person in range(people):
            told = told_at(kind, people, lot, person)
            self.assertEqual(told, plain.told.get(person), (kind, people, lot, person))
            caller = called_by(kind, people, lot, person)
            self.assertEqual(caller, plain.callers.get(person), (kind, people, lot, person))
            self.assertEqual(calls_of(kind, people, lot, person), plain.calls.get(person, 0), (kind, people, lot, person))
        self.assertEqual(last_tick(kind, people, lot), max(plain.told.values()), (kind, people, lot))

    def test_all_lots_of_few_people(self):
        for kind in KINDS:
            for people in range(1, 9):
                for lot in all_lots(people, 3):
                    self.compare(kind, people, lot)

    def test_some_lots_of_more_people(self):
        draw = random.Random(163)
        for kind in KINDS:
            for people in draw.sample(range(9, 40), 6) + draw.sample(range(40, 66), 3):
                for lot in telling_lots(kind, people, draw):
                    self.compare(kind, people, lot)

    def test_known_ones(self):
        # 0 calls 1 and 4, 1 calls 2 and 3, 4 calls 5 and 6.
        self.assertEqual([told_at(("parts", 2), 7, (), person) for person in range(7)], [0, 1, 2, 3, 2, 3, 4])
        # Without 1 those behind are one part, of which 2 comes next, ahead of 4.
        self.assertEqual([told_at(("parts", 2), 7, (1,), person) for person in range(7)], [0, None, 2, 3, 3, 4, 5])
        self.assertEqual([called_by(("parts", 2), 7, (1,), person) for person in range(7)], [None, 0, 0, 2, 0, 4, 4])
        self.assertEqual([calls_of(("parts", 2), 7, (1,), person) for person in range(7)], [3, 0, 1, 0, 2, 0, 0])
        # Without 1 of a heap 0 calls 3 and 4 ahead of 2.
        self.assertEqual([told_at(("heap", 2), 7, (1,), person) for person in range(7)], [0, None, 4, 2, 3, 5, 6])
        self.assertEqual([called_by(("heap", 2), 7, (1,), person) for person in range(7)], [None, 0, 0, 0, 0, 2, 2])
        self.assertEqual([told_at(("heap", 2), 7, (1, 3), person) for person in range(7)], [0, None, 4, None, 3, 5, 6])
        self.assertEqual([told_at(("half",), 8, (), person) for person in range(8)], [0, 1, 2, 3, 3, 2, 3, 3])
        self.assertEqual([told_at(("half",), 8, (1, 2), person) for person in range(8)], [0, None, None, 3, 4, 4, 5, 5])
        self.assertEqual(last_tick(("half",), 8, (1, 2, 3)), 6)
        self.assertEqual(told_at(("best", 2), 12, (), 11), 4)

    def test_all_but_0_missing(self):
        for kind in KINDS:
            self.assertEqual(last_tick(kind, 4, (1, 2, 3)), 0)
            self.assertEqual(calls_of(kind, 4, (1, 2, 3), 0), 3)
            self.assertEqual([called_by(kind, 4, (1, 2, 3), person) for person in range(4)], [None, 0, 0, 0])
            self.assertEqual([told_at(kind, 4, (1, 2, 3), person) for person in range(4)], [0, None, None, None])

    def test_one_person_alone(self):
        for kind in KINDS:
            self.assertEqual(told_at(kind, 1, (), 0), 0)
            self.assertIsNone(called_by(kind, 1, (), 0))
            self.assertEqual(calls_of(kind, 1, (), 0), 0)
            self.assertEqual(last_tick(kind, 1, ()), 0)


class Far(unittest.TestCase):
    def lots(self, draw, people):
        lots = [(), (1,), (1, 2, 3), (people - 3, people - 2, people - 1), (1, people // 2, people - 1)]
        return lots + [tuple(sorted({draw.randrange(1, people) for _ in range(many)})) for many in (1, 2, 3)]

    def climb(self, kind, people, lot, person):
        """From the person up to 0: each is told by a caller who makes that call between their own ticks."""
        above = [person]
        while above[-1] != 0:
            caller = called_by(kind, people, lot, above[-1])
            self.assertNotIn(caller, lot)
            self.assertLess(caller, above[-1])
            told, tick = told_at(kind, people, lot, above[-1]), told_at(kind, people, lot, caller)
            if told is not None:
                self.assertLessEqual(tick + 1, told)
                self.assertLessEqual(told, tick + calls_of(kind, people, lot, caller))
            self.assertLess(len(above), 300)
            above.append(caller)
        return above

    def test_callers_lead_back_to_0(self):
        draw = random.Random(167)
        for kind in KINDS:
            people = draw.choice((FAR, FAR - 1, draw.randrange(FAR)))
            for lot in self.lots(draw, people)[::3]:
                for person in (people - 1, (lot or (draw.randrange(people),))[-1]):
                    self.climb(kind, people, lot, person)

    def test_whom_somebody_calls_is_told_at_the_tick_of_that_call(self):
        draw = random.Random(173)
        for kind in KINDS:
            for people in (FAR, draw.randrange(FAR)):
                for person in [0] + draw.sample(self.climb(kind, people, (), draw.randrange(people)), 3):
                    self.check_calls(kind, people, person)

    def check_calls(self, kind, people, person):
        """With nobody missing the sizes of the parts alone tell whom the person calls: the call order is theirs."""
        handed = self.handed(kind, people, person)
        parts = sizes(kind, handed)
        self.assertEqual(calls_of(kind, people, (), person), len(parts))
        first = person + 1 if kind[0] != "heap" else kind[1] * person + 1
        tick = told_at(kind, people, (), person)
        for call, size in list(enumerate(parts, start=1))[:12]:
            self.assertEqual(called_by(kind, people, (), first), person, (kind, people, person, call))
            self.assertEqual(told_at(kind, people, (), first), tick + call, (kind, people, person, call))
            # If that one is missing who comes behind is told by the same caller a tick later.
            if size > 1 and kind[0] != "heap":
                self.assertEqual(called_by(kind, people, (first,), first + 1), person)
                self.assertEqual(told_at(kind, people, (first,), first + 1), tick + call + 1)
            if size > 1 and kind[0] == "heap":
                self.assertEqual(called_by(kind, people, (first,), kind[1] * first + 1), person)
                self.assertEqual(told_at(kind, people, (first,), kind[1] * first + 1), tick + call + 1)
            self.assertIsNone(told_at(kind, people, (first,), first))
            self.assertEqual(called_by(kind, people, (first,), first), person)
            self.assertEqual(calls_of(kind, people, (first,), first), 0)
            first += size if kind[0] != "heap" else 1

    def handed(self, kind, people, person):
        """How many the person is handed, nobody missing: down from 0, by the sizes of the parts."""
        if kind[0] == "heap":
            low = high = person
            count = 0
            while low < people:
                count += min(high, people - 1) - low + 1
                low, high = kind[1] * low + 1, kind[1] * high + kind[1]
            return count - 1
        at, count = 0, people - 1
        while at != person:
            first = at + 1
            for size in sizes(kind, count):
                if first <= person < first + size:
                    at, count = first, size - 1
                    break
                first += size
        return count

    def test_the_last_tick_is_that_of_somebody(self):
        draw = random.Random(179)
        for kind in KINDS:
            for lot in self.lots(draw, FAR):
                last = last_tick(kind, FAR, lot)
                near = [FAR - 1, FAR - 2, FAR - 3, FAR - 4] + [draw.randrange(FAR) for _ in range(6)]
                for person in near:
                    self.assertLessEqual(told_at(kind, FAR, lot, person) or 0, last)
                self.assertGreater(last, 90)

    def test_known_ones(self):
        self.assertEqual(last_tick(("half",), 2 ** 99, ()), 99)
        self.assertEqual(last_tick(("half",), 2 ** 99 + 1, ()), 100)
        self.assertEqual(told_at(("half",), 2 ** 99, (), 2 ** 98 + 1), 2)
        self.assertEqual(last_tick(("parts", 2), 2 ** 99 - 1, ()), 2 * 98)
        self.assertEqual(told_at(("parts", 2), 2 ** 99 - 1, (), 2 ** 99 - 2), 2 * 98)
        self.assertEqual(last_tick(("heap", 2), 2 ** 99 - 1, ()), 2 * 98)
        self.assertEqual(last_tick(("heap", 8), (8 ** 33 - 1) // 7, ()), 8 * 32)
        self.assertEqual(told_at(("heap", 2), FAR, (), FAR - 1), told_at(("heap", 2), FAR, (), (FAR - 2) // 2) + 1)
        self.assertEqual(called_by(("heap", 3), FAR, (), FAR - 1), (FAR - 2) // 3)


class Arguments(unittest.TestCase):
    def test_wrong_ones(self):
        members = {"person": BAD_PERSONS + [(thing, OutOfPlace, None) for thing in (6, 7, FAR)]}
        lots = {"lot": BAD_LOTS + [(thing, OutOfPlace, None) for thing in ((6,), (1, 6), (5, 6), (2, 3, 7))]}
        for kind in (("half",), ("heap", 3)):
            for function in (told_at, called_by, calls_of):
                refuse_each(self, function, ("kind", "people", "lot", "person"), {"kind": kind}, {**members, **lots})
            refuse_each(self, last_tick, ("kind", "people", "lot"), {"kind": kind}, lots)

    def test_a_lot_and_a_person_of_these_people(self):
        for people in (1, 2, 5, FAR):
            refuse(self, lambda: last_tick(("half",), people, (people,)), OutOfPlace, None)
            for function in (told_at, called_by, calls_of):
                refuse(self, lambda: function(("half",), people, (people,), 0), OutOfPlace, None)
                refuse(self, lambda: function(("half",), people, (), people), OutOfPlace, None)
                refuse(self, lambda: function(("halves",), people, (people,), people), BadKind, "form")
                refuse(self, lambda: function(("half", 2), 0, (people,), people), BadKind, "number")
        self.assertEqual(told_at(kind=("half",), people=FAR, lot=(FAR - 2,), person=FAR - 1), 100)


if __name__ == "__main__":
    unittest.main()
