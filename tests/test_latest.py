import random
import unittest
from fractions import Fraction

from callsdown.errors import OutOfPlace
from callsdown.latest import growth, latest, latest_absence
from callsdown.losses import is_safe
from callsdown.steps import last_tick
from tests.plain import all_absences, all_rules, told_ticks
from tests.wrong import BAD_PEOPLE, FAR, refuse, refuse_each

AWAYS = range(5)
SAFE = [(rule, away) for rule in all_rules() for away in AWAYS if is_safe(rule, away)]
SOME = [(rule, away) for rule, away in SAFE if rule in (
    (1,), (1, 2), (2, 1), (1, 6), (6, 1), (2, 1, 6), (6, 5, 4, 1), (3, 2, 1), (6, 3, 2, 1), (5, 1, 2, 3), (1, 2, 3, 4),
    (4, 3, 2, 1), (3, 1, 4, 2), (4, 1, 3, 2), (6, 5, 2, 1), (5, 6, 1),
)]


def greatest_lasts(rule, away, people):
    """For each number from 1 to people the greatest LAST, by all ABSENCES of at most so many."""
    greatest = [0] * (people + 1)
    for absent in all_absences(people - 1, away):
        told = told_ticks(rule, absent, people)
        last = 0
        for person in range(people):
            last = max(last, told.get(person, 0))
            greatest[person + 1] = max(greatest[person + 1], last)
    return greatest


def lasts_by_windows(rule, away, people):
    """For each number from 1 to people the greatest LAST, one person after the other, no round left out."""
    none = 10 ** 9
    windows = {((none,) * (max(rule) - 1) + (0,), away): 0}
    greatest = [0, 0]
    for _ in range(1, people):
        fresh = {}
        for (window, left), base in windows.items():
            tick = min(window[-step] + place for place, step in enumerate(rule, start=1))
            greatest[-1] = max(greatest[-1], base)
            for last, rest in ((tick, left), (none, left - 1)):
                if rest >= 0:
                    ticks = window[1:] + (last,)
                    low = min(ticks)
                    shape = tuple(one - low if one < none else none for one in ticks)
                    fresh[shape, rest] = max(base + low, fresh.get((shape, rest), 0))
        windows = fresh
        top = max(base + one for (window, _), base in windows.items() for one in window if one < none)
        greatest.append(max(greatest[-1], top))
    return greatest


class Near(unittest.TestCase):
    def test_all_safe_rules_against_all_absences_of_few_people(self):
        for rule, away in SAFE:
            greatest = greatest_lasts(rule, away, 8)
            for people in range(1, 9):
                self.assertEqual(latest(rule, away, people), greatest[people], (rule, away, people))

    def test_some_rules_against_all_absences_of_more_people(self):
        draw = random.Random(19)
        for rule, away in SOME + draw.sample(SAFE, 20):
            people = (60, 40, 18, 13)[away]
            greatest = greatest_lasts(rule, away, people)
            for many in range(1, people + 1):
                self.assertEqual(latest(rule, away, many), greatest[many], (rule, away, many))

    def test_the_windows_against_all_absences(self):
        for rule, away in SOME:
            self.assertEqual(lasts_by_windows(rule, away, 12), greatest_lasts(rule, away, 12), (rule, away))

    def test_many_people_one_by_one(self):
        draw = random.Random(23)
        for rule, away in SOME + draw.sample(SAFE, 40):
            greatest = lasts_by_windows(rule, away, 150)
            for people in list(range(1, 61)) + draw.sample(range(61, 151), 20):
                self.assertEqual(latest(rule, away, people), greatest[people], (rule, away, people))

    def test_known_ones(self):
        self.assertEqual(latest((1,), 0, 5), 4)
        self.assertEqual(latest((1, 2), 1, 5), 4)
        self.assertEqual([latest((2, 1), 0, people) for people in range(1, 7)], [0, 2, 2, 3, 3, 4])
        self.assertEqual([latest((2, 1), 1, people) for people in range(1, 6)], [0, 2, 2, 3, 5])
        self.assertEqual(latest(rule=(2, 1), away=1, people=5), 5)
        # Person 4 is later than all behind, if 2 is missing.
        self.assertEqual([last_tick((6, 3, 2, 1), (2,), people) for people in (5, 6, 7)], [6, 6, 6])
        self.assertEqual([latest((6, 3, 2, 1), 1, people) for people in (4, 5, 6, 7)], [4, 6, 6, 6])

    def test_one_person_alone(self):
        for rule, away in SAFE:
            self.assertEqual(latest(rule, away, 1), 0)
            self.assertEqual(latest_absence(rule, away, 1), ())


class Absences(unittest.TestCase):
    def check(self, rule, away, people):
        absent = latest_absence(rule, away, people)
        self.assertIs(type(absent), tuple)
        self.assertTrue(all(type(one) is int and 1 <= one < people for one in absent), (rule, away, people, absent))
        self.assertEqual(list(absent), sorted(set(absent)))
        self.assertLessEqual(len(absent), away)
        last = max(told_ticks(rule, absent, people).values())
        self.assertEqual(last, latest(rule, away, people), (rule, away, people, absent))
        self.assertEqual(latest_absence(rule, away, people), absent)

    def test_all_safe_rules(self):
        draw = random.Random(29)
        for rule, away in SAFE:
            for people in (2, 3, 5, 60, draw.randrange(6, 60)):
                self.check(rule, away, people)

    def test_all_numbers_of_people(self):
        for rule, away in SOME:
            for people in range(1, 61):
                self.check(rule, away, people)


class Far(unittest.TestCase):
    def test_nobody_missing(self):
        draw = random.Random(31)
        for rule, away in SAFE:
            if away == 0:
                for people in (FAR, FAR - draw.randrange(100), draw.randrange(1, FAR), draw.randrange(1, 500)):
                    self.assertEqual(latest(rule, 0, people), last_tick(rule, (), people), (rule, people))

    def test_no_less_than_for_any_absence_or_for_less(self):
        draw = random.Random(37)
        for rule, away in SAFE:
            people = FAR - draw.choice((0, 1, 2, 3, 7, FAR // 3))
            most = latest(rule, away, people)
            self.assertGreaterEqual(most, latest(rule, max(0, away - 1), people))
            for fewer in (people - 1, people - 2, people - 60, people // 2, 1000, 1):
                self.assertGreaterEqual(most, latest(rule, away, fewer))
            for start in (1, 50, people // 2, people - 12, people - 7):
                absent = tuple(sorted(draw.sample(range(start, start + 6), away)))
                self.assertGreaterEqual(most, last_tick(rule, absent, people), (rule, away, people, absent))
            absent = tuple(sorted(draw.sample((1, 2, 3, 30, 31, people - 2, people - 3, people - 5), away)))
            self.assertGreaterEqual(most, last_tick(rule, absent, people), (rule, away, people, absent))

    def test_an_absence_has_it_near_the_start_or_the_end(self):
        # By the ticks that come again a missing one in the middle of a long stretch can stand near its start, too.
        for rule, away in ((rule, away) for rule, away in SOME if away < 2):
            most = latest(rule, away, FAR)
            near = list(range(1, 80)) + list(range(FAR - 80, FAR))
            absences = [()] + [(one,) for one in near if away == 1]
            self.assertEqual(most, max(last_tick(rule, absent, FAR) for absent in absences), (rule, away))

    def test_rounds_of_60_people_go_on(self):
        draw = random.Random(41)
        for rule, away in SOME + draw.sample(SAFE, 30):
            above, below = growth(rule)
            greatest = lasts_by_windows(rule, away, 420)
            for people in [FAR] + draw.sample(range(FAR - 60, FAR), 5) + [10 ** 9, 12345]:
                rounds = (people - 360) // 60
                tick = greatest[people - 60 * rounds] + 60 * rounds * above // below
                self.assertEqual(latest(rule, away, people), tick, (rule, away, people))

    def test_known_ones(self):
        self.assertEqual(latest((1,), 0, FAR), FAR - 1)
        self.assertEqual(latest((1, 2), 1, FAR), FAR - 1)
        self.assertEqual(latest((2, 1), 0, FAR), FAR // 2 + 1)


class Growth(unittest.TestCase):
    def test_all_rules(self):
        for rule in all_rules():
            least = min(Fraction(place, step) for place, step in enumerate(rule, start=1))
            self.assertEqual(growth(rule), (least.numerator, least.denominator), rule)

    def test_known_ones(self):
        self.assertEqual(growth((1,)), (1, 1))
        self.assertEqual(growth(rule=(4, 6)), (1, 4))
        self.assertEqual(growth((2, 4)), (1, 2))
        self.assertEqual(growth((1, 6)), (1, 3))
        self.assertEqual(growth((2, 1, 6, 5)), (1, 2))
        self.assertEqual(growth((2, 5)), (2, 5))
        self.assertIs(type(growth((1, 2))), tuple)

    def test_it_is_what_people_cost(self):
        for rule in all_rules():
            above, below = growth(rule)
            lasts = [last_tick(rule, (), people) for people in (FAR - 120, FAR - 60)]
            if lasts[1] > 10:
                self.assertEqual((lasts[1] - lasts[0]) * below, 60 * above, rule)


class Arguments(unittest.TestCase):
    def test_wrong_ones(self):
        refuse_each(self, growth, ("rule",))
        refuse_each(self, latest, ("rule", "away", "people"))
        more = [(thing, OutOfPlace, None) for thing in (61, 62, 1000, FAR)]
        refuse_each(self, latest_absence, ("rule", "away", "people"), bad={"people": BAD_PEOPLE + more})

    def test_rules_that_are_not_safe(self):
        for rule in all_rules():
            for away in AWAYS:
                if (rule, away) not in SAFE:
                    refuse(self, lambda: latest(rule, away, 5), OutOfPlace, None)
                    refuse(self, lambda: latest_absence(rule, away, 1), OutOfPlace, None)

    def test_the_greatest_ones_are_taken(self):
        self.assertEqual(latest((4, 3, 2, 1), 3, 1), 0)
        self.assertEqual(latest_absence((1,), 0, 60), ())


if __name__ == "__main__":
    unittest.main()
