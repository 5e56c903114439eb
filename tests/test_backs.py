import random
import unittest

from callsdown.backs import back_tick, ready_at
from callsdown.errors import OutOfPlace
from callsdown.ticks import called_by, calls_of, last_tick, told_at
from tests.plain_trees import KINDS, all_lots, played, telling_lots
from tests.wrong import BAD_LOTS, BAD_PERSONS, FAR, refuse_each


class Near(unittest.TestCase):
    def compare(self, kind, people, lot):
        plain = played(kind, people, lot).ready()
        for person in range(people):
            self.assertEqual(ready_at(kind, people, lot, person), plain.get(person), (kind, people, lot, person))
        self.assertEqual(back_tick(kind, people, lot), plain[0], (kind, people, lot))

    def test_all_lots_of_few_people(self):
        for kind in KINDS:
            for people in range(1, 9):
                for lot in all_lots(people, 3):
                    self.compare(kind, people, lot)

    def test_some_lots_of_more_people(self):
        draw = random.Random(181)
        for kind in KINDS:
            for people in draw.sample(range(9, 50), 3):
                for lot in telling_lots(kind, people, draw)[::2]:
                    self.compare(kind, people, lot)

    def test_known_ones(self):
        self.assertEqual(back_tick(("half",), 2, ()), 2)
        self.assertEqual(back_tick(("half",), 3, ()), 3)
        self.assertEqual([ready_at(("parts", 2), 7, (), person) for person in range(7)], [6, 4, 2, 3, 5, 3, 4])
        self.assertEqual([ready_at(("heap", 2), 4, (), person) for person in range(4)], [4, 3, 2, 2])

    def test_calls_in_vain_at_the_end_count(self):
        # 0 calls 1 and 2: the last call is in vain, and 1 has called back at the tick 2.
        self.assertEqual(back_tick(("parts", 2), 3, (2,)), 2)
        self.assertEqual(back_tick(("parts", 3), 4, (2, 3)), 3)
        self.assertEqual(back_tick(("parts", 8), 4, (1, 2, 3)), 3)
        self.assertEqual(ready_at(("parts", 2), 7, (2, 3), 1), 3)
        self.assertEqual(ready_at(("parts", 2), 7, (6,), 4), 4)
        for kind in KINDS:
            self.assertEqual(back_tick(kind, 2, (1,)), 1)
            self.assertEqual(back_tick(kind, 4, (1, 2, 3)), 3)

    def test_one_person_alone_and_missing_ones(self):
        for kind in KINDS:
            self.assertEqual(back_tick(kind, 1, ()), 0)
            self.assertEqual(ready_at(kind, 1, (), 0), 0)
            self.assertIsNone(ready_at(kind, 9, (4, 8), 4))
            self.assertIsNone(ready_at(kind, 9, (4, 8), 8))


class Far(unittest.TestCase):
    def test_0_and_those_on_the_way_to_somebody(self):
        draw = random.Random(191)
        for kind in KINDS:
            for lot in ((), (1, 2), (FAR - 1,), (draw.randrange(1, FAR // 2), draw.randrange(FAR // 2, FAR))):
                back = back_tick(kind, FAR, lot)
                self.assertEqual(ready_at(kind, FAR, lot, 0), back)
                self.assertGreater(back, last_tick(kind, FAR, lot))
                person = draw.randrange(FAR // 2)
                while person != 0 and person not in lot:
                    caller = called_by(kind, FAR, lot, person)
                    ready, above = ready_at(kind, FAR, lot, person), ready_at(kind, FAR, lot, caller)
                    self.assertLess(ready, above)
                    self.assertGreaterEqual(ready, told_at(kind, FAR, lot, person) + calls_of(kind, FAR, lot, person))
                    person = called_by(kind, FAR, lot, caller) or 0

    def test_those_who_are_told_last_are_heard_through_all_above(self):
        # All 2 ** 99 - 1 of a heap of rows that are full: the last one is told last, 98 calls away from 0.
        people = 2 ** 99 - 1
        self.assertEqual(ready_at(("heap", 2), people, (), people - 1), 2 * 98)
        self.assertEqual(back_tick(("heap", 2), people, ()), 2 * 98 + 98)
        self.assertEqual(back_tick(("parts", 2), people, ()), 2 * 98 + 98)
        self.assertEqual(back_tick(("heap", 2), people, (people - 1,)), 2 * 98 + 97)
        # Of 2 ** 99 each tick told more have half of what is left: somebody is 99 calls away, told at 99.
        self.assertEqual(back_tick(("half",), 2 ** 99, ()), 99 + 99)


class Arguments(unittest.TestCase):
    def test_wrong_ones(self):
        members = {"person": BAD_PERSONS + [(thing, OutOfPlace, None) for thing in (6, 7, FAR)]}
        lots = {"lot": BAD_LOTS + [(thing, OutOfPlace, None) for thing in ((6,), (1, 6), (2, 3, 7))]}
        refuse_each(self, back_tick, ("kind", "people", "lot"), {}, lots)
        refuse_each(self, ready_at, ("kind", "people", "lot", "person"), {}, {**lots, **members})


if __name__ == "__main__":
    unittest.main()
