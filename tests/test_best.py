import random
import unittest

from callsdown.best import best_kinds, is_best, least_tick
from callsdown.errors import OutOfPlace
from callsdown.ticks import last_tick
from tests.plain_trees import KINDS, most, played
from tests.wrong import BAD_PEOPLE, FAR, NO_NUMBERS, refuse_each

BAD_CALLS = [(thing, OutOfPlace, None) for thing in NO_NUMBERS if thing is not None] + [
    (thing, OutOfPlace, None) for thing in (0, 1, 9, 10, FAR)]


def least(people, calls):
    """The first tick at which so many can have been told: in each tick those call who have made fewer calls."""
    told = {0: 1}
    tick = 0
    while sum(told.values()) < people:
        tick += 1
        told[tick] = sum(many for at, many in told.items() if calls is None or tick - at <= calls)
    return tick


class Least(unittest.TestCase):
    def test_few_people(self):
        for calls in [None] + list(range(2, 9)):
            for people in range(1, 300):
                self.assertEqual(least_tick(people, calls), least(people, calls), (people, calls))

    def test_near_the_powers_of_2_and_the_sums(self):
        for power in range(1, 100):
            for more in (-1, 0, 1):
                people = 2 ** power + more
                self.assertEqual(least_tick(people, None), power + (more > 0) - (people == 1), people)
        for calls in range(2, 9):
            for ticks in range(100):
                told = most(calls, ticks)
                self.assertEqual(least_tick(told, calls), ticks)
                self.assertEqual(least_tick(told + 1, calls), ticks + 1)

    def test_near_the_greatest_number(self):
        draw = random.Random(193)
        for calls in [None] + list(range(2, 9)):
            for people in [FAR, FAR - 1, FAR - 2] + [draw.randrange(FAR) for _ in range(20)]:
                self.assertEqual(least_tick(people, calls), least(people, calls), (people, calls))

    def test_known_ones(self):
        self.assertEqual([least_tick(people, None) for people in (1, 2, 3, 4, 5, 8, 9)], [0, 1, 2, 2, 3, 3, 4])
        self.assertEqual([least_tick(people, 2) for people in (1, 2, 4, 5, 7, 8, 12, 13)], [0, 1, 2, 3, 3, 4, 4, 5])
        self.assertEqual(least_tick(people=FAR, calls=None), 100)
        self.assertEqual([least_tick(1, calls) for calls in range(2, 9)], [0] * 7)

    def test_the_best_kinds_have_it(self):
        draw = random.Random(197)
        for people in list(range(1, 130)) + [FAR, FAR - 1] + [draw.randrange(FAR) for _ in range(10)]:
            self.assertEqual(last_tick(("half",), people, ()), least_tick(people, None), people)
            for calls in range(2, 9):
                self.assertEqual(last_tick(("best", calls), people, ()), least_tick(people, calls), (people, calls))


class Best(unittest.TestCase):
    def test_few_people_against_the_plain_play(self):
        for people in list(range(1, 40)) + [63, 64, 65, 100]:
            lasts = {kind: max(played(kind, people).told.values()) for kind in KINDS}
            for kind in KINDS:
                self.assertIs(is_best(kind, people), lasts[kind] == least(people, None), (kind, people))
            due = tuple(sorted(kind for kind in KINDS if lasts[kind] == min(lasts.values())))
            self.assertEqual(best_kinds(people), due, people)

    def test_many_people_against_the_last_ticks(self):
        draw = random.Random(199)
        few = [draw.randrange(10 ** at) + 1 for at in range(2, 30)]
        powers = [2 ** power + more for power in (7, 8, 9, 10, 50, 99) for more in (-1, 0, 1)]
        for people in few + powers + [FAR, FAR - 1, 255 * 2 ** 20, 511, 1020, 1021]:
            lasts = {kind: last_tick(kind, people, ()) for kind in KINDS}
            for kind in KINDS:
                self.assertIs(is_best(kind, people), lasts[kind] == least(people, None), (kind, people))
            due = tuple(sorted(kind for kind in KINDS if lasts[kind] == min(lasts.values())))
            self.assertEqual(best_kinds(people), due, people)

    def test_known_ones(self):
        self.assertEqual(best_kinds(1), tuple(sorted(KINDS)))
        self.assertEqual(best_kinds(people=2), tuple(sorted(KINDS)))
        self.assertNotIn(("parts", 8), best_kinds(5))
        self.assertIn(("heap", 3), best_kinds(5))
        self.assertEqual(best_kinds(FAR), (("best", 8), ("half",)))
        self.assertIs(is_best(("parts", 2), 4), True)
        self.assertIs(is_best(kind=("parts", 4), people=5), False)
        self.assertIs(is_best(("best", 8), 512), False)
        self.assertIs(is_best(("best", 8), 511), True)
        self.assertIs(is_best(("half",), 512), True)


class Arguments(unittest.TestCase):
    def test_wrong_ones(self):
        for calls in (None, 2, 8):
            refuse_each(self, least_tick, ("people", "calls"), {"calls": calls}, {"calls": BAD_CALLS})
        refuse_each(self, is_best, ("kind", "people"))
        refuse_each(self, best_kinds, ("people",))
        self.assertGreater(len(BAD_PEOPLE), 10)


if __name__ == "__main__":
    unittest.main()
