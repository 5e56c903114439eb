import random
import unittest
from itertools import product

from callsdown.steps import callers, last_tick, need_rule, tick_of
from tests.plain import FarTicks, all_absences, all_rules, told_ticks
from tests.wrong import BAD_RULES, FAR, refuse, refuse_each

FAR_ABSENCES = (
    (), (1,), (FAR,), (FAR - 1,), (FAR - 3, FAR - 2), (FAR - 4, FAR - 3, FAR - 2, FAR - 1),
    (FAR - 3, FAR - 2, FAR - 1, FAR), (1, 2, FAR - 6, FAR - 5), (2, 4, FAR - 8, FAR - 6),
    (FAR // 2, FAR // 2 + 1, FAR // 2 + 2, FAR - 9), (7, 10 ** 15, 3 * 10 ** 29, FAR - 2), (10 ** 9, FAR // 7 * 6),
)


class NeedRule(unittest.TestCase):
    def test_every_line_rule_is_given_back(self):
        for rule in all_rules():
            self.assertIs(need_rule(rule), rule)
        self.assertEqual(need_rule(thing=(6, 1, 5)), (6, 1, 5))

    def test_what_is_none_is_refused_with_its_part(self):
        for thing, error, part in BAD_RULES:
            with self.subTest(thing=repr(thing)[:60]):
                refuse(self, lambda: need_rule(thing), error, part)
                refuse(self, lambda: need_rule(thing=thing), error, part)


class Near(unittest.TestCase):
    """People of small numbers, against the calls made tick by tick."""

    def compare(self, rule, absent, people):
        told = told_ticks(rule, absent, people)
        for person in range(people):
            with self.subTest(rule=rule, absent=absent, person=person):
                calling = tuple(one for one in range(person) if one in told and person - one in rule)
                self.assertEqual(tick_of(rule, absent, person), told.get(person))
                self.assertEqual(callers(rule, absent, person), calling)
        for many in (1, 2, 3, people // 2, people):
            last = max(tick for person, tick in told.items() if person < many)
            self.assertEqual(last_tick(rule, absent, many), last, (rule, absent, many))

    def test_all_rules_with_some_absences(self):
        draw = random.Random(2)
        absences = all_absences(12)
        for rule in all_rules():
            for absent in [()] + draw.sample(absences, 4):
                self.compare(rule, absent, 30)

    def test_some_rules_with_all_absences(self):
        for rule in ((1,), (2,), (1, 2), (2, 1), (3, 2), (1, 2, 3), (4, 1, 6), (5, 6), (6, 3, 1, 2), (4, 3, 2, 1)):
            for absent in all_absences(8):
                self.compare(rule, absent, 16)

    def test_missing_ones_far_apart(self):
        draw = random.Random(3)
        for rule in draw.sample(all_rules(), 60):
            absent = tuple(sorted(draw.sample(range(1, 150), draw.randrange(1, 5))))
            self.compare(rule, absent, 160)

    def test_people_who_are_many_rounds_away(self):
        for rule in ((1,), (6,), (5, 6), (6, 5), (2, 6), (4, 5), (6, 4, 5, 3), (1, 2, 3, 4)):
            for absent in ((), (1, 2), (5, 12, 16), (1, 4, 5, 11)):
                told = told_ticks(rule, absent, 900)
                for people in range(800, 900, 7):
                    last = max(tick for person, tick in told.items() if person < people)
                    self.assertEqual(last_tick(rule, absent, people), last, (rule, absent, people))
                    self.assertEqual(tick_of(rule, absent, people), told.get(people), (rule, absent, people))

    def test_without_missing_ones_it_is_the_least_sum_of_places(self):
        for rule in all_rules(4):
            sums = {}
            for row in (row for many in range(7) for row in product(rule, repeat=many)):
                cost = sum(rule.index(step) + 1 for step in row)
                sums[sum(row)] = min(cost, sums.get(sum(row), cost))
            for person in range(7):
                self.assertEqual(tick_of(rule, (), person), sums.get(person), (rule, person))

    def test_the_person_0(self):
        for rule in all_rules():
            for absent in ((), (1, 2, 3, 4), (FAR,)):
                self.assertEqual(tick_of(rule, absent, 0), 0)
                self.assertEqual(callers(rule, absent, 0), ())
                self.assertEqual(last_tick(rule, absent, 1), 0)

    def test_a_missing_person_is_called_and_not_told(self):
        self.assertIsNone(tick_of((1, 2), (3,), 3))
        self.assertEqual(callers((1, 2), (3,), 3), (1, 2))
        self.assertEqual(callers((1, 2), (2, 3), 3), (1,))
        self.assertEqual(callers((1, 2), (1, 2, 3), 3), ())

    def test_one_who_is_never_told(self):
        self.assertIsNone(tick_of((2,), (), 7))
        self.assertEqual(callers((2,), (), 7), ())
        self.assertIsNone(tick_of((1, 2), (4, 5), 6))
        self.assertIsNone(tick_of((1, 2), (4, 5), FAR))
        self.assertEqual(last_tick((1, 2), (4, 5), FAR), 3)

    def test_the_greatest_tick_may_be_that_of_a_lesser_person(self):
        self.assertEqual([tick_of((6, 3, 2, 1), (2,), person) for person in range(1, 7)], [4, None, 2, 6, 5, 1])
        self.assertEqual(last_tick((6, 3, 2, 1), (2,), 7), 6)


class Far(unittest.TestCase):
    """People of numbers near 10 ** 30, against powers of a matrix."""

    def test_the_matrix_itself_against_the_calls(self):
        draw = random.Random(5)
        absences = all_absences(12)
        for rule in draw.sample(all_rules(), 100):
            far = FarTicks(rule)
            absent = draw.choice(absences)
            told = told_ticks(rule, absent, 60)
            for person in range(60):
                self.assertEqual(far.tick(absent, person), told.get(person), (rule, absent, person))
            self.assertEqual(far.last(absent, 60), max(told.values()))

    def test_ticks_and_callers_of_all_rules(self):
        draw = random.Random(7)
        for rule in all_rules():
            far = FarTicks(rule)
            for absent in [()] + draw.sample(FAR_ABSENCES[1:], 2):
                for person in [FAR] + draw.sample(range(FAR - 8, FAR), 1):
                    with self.subTest(rule=rule, absent=absent, person=person):
                        self.assertEqual(tick_of(rule, absent, person), far.tick(absent, person))
                        self.assertEqual(callers(rule, absent, person), far.callers(absent, person))

    def test_last_ticks(self):
        draw = random.Random(11)
        for rule in draw.sample(all_rules(), 40):
            far = FarTicks(rule)
            for absent in draw.sample(FAR_ABSENCES, 3):
                people = FAR - draw.choice((0, 0, 1, 2, 7, 1000, FAR // 3))
                with self.subTest(rule=rule, absent=absent, people=people):
                    self.assertEqual(last_tick(rule, absent, people), far.last(absent, people))

    def test_all_absences_for_one_rule(self):
        for rule in ((1, 2, 3), (3, 1, 5), (4, 6)):
            far = FarTicks(rule)
            for absent in FAR_ABSENCES:
                for person in range(FAR - 7, FAR + 1):
                    with self.subTest(rule=rule, absent=absent, person=person):
                        self.assertEqual(tick_of(rule, absent, person), far.tick(absent, person))
                        self.assertEqual(callers(rule, absent, person), far.callers(absent, person))
                self.assertEqual(last_tick(rule, absent, FAR), far.last(absent, FAR))

    def test_known_numbers(self):
        self.assertEqual(tick_of((1,), (), FAR), FAR)
        self.assertEqual(tick_of((2, 1), (), FAR), FAR // 2)
        self.assertEqual(last_tick((1,), (), FAR), FAR - 1)
        self.assertEqual(last_tick((1,), (FAR // 2,), FAR), FAR // 2 - 1)
        self.assertEqual(tick_of((1,), (FAR - 1,), FAR), None)
        self.assertEqual(tick_of((1,), (FAR,), FAR), None)
        self.assertEqual(callers((1,), (FAR,), FAR), (FAR - 1,))
        self.assertEqual(callers((1,), (FAR - 1,), FAR), ())


class Arguments(unittest.TestCase):
    def test_wrong_ones(self):
        refuse_each(self, tick_of, ("rule", "absent", "person"))
        refuse_each(self, callers, ("rule", "absent", "person"))
        refuse_each(self, last_tick, ("rule", "absent", "people"))

    def test_the_greatest_ones_are_taken(self):
        absent = (1, 2, FAR - 1, FAR)
        self.assertIsNone(tick_of((3,), absent, FAR))
        self.assertEqual(last_tick((3,), absent, FAR), (FAR - 1) // 3 - 1)

    def test_missing_ones_behind_count_for_nothing(self):
        self.assertEqual(tick_of((1, 2), (6, 7, 8, FAR), 5), tick_of((1, 2), (), 5))
        self.assertEqual(callers((1, 2), (5, 6, 7, 8), 5), (3, 4))
        self.assertEqual(last_tick((1, 2), (6, 7, 8, FAR), 6), last_tick((1, 2), (), 6))

    def test_equal_calls_give_the_same(self):
        for _ in range(2):
            self.assertEqual(tick_of((3, 1, 5), (2, 9), 40), told_ticks((3, 1, 5), (2, 9), 41)[40])


if __name__ == "__main__":
    unittest.main()
