import random
import unittest
from itertools import combinations, product

from callsdown.errors import BadRule, OutOfPlace
from callsdown.latest import growth
from callsdown.likes import part_line, part_scaled
from callsdown.steps import tick_of
from tests.plain import FarTicks, all_adds, all_rules, told_scaled, told_ticks
from tests.wrong import BAD_RULES, BAD_SCALED, FAR, refuse, refuse_each

# SCALED RULES that part late: D, the ADDS of both, and the person of whom they part.
LATE = (
    (2, (0, 4, 17), (0, 4, 16, 17), 474), (2, (3, 6, 19), (3, 6, 15, 19), 455), (2, (0, 3, 16), (0, 3, 12, 16), 362),
    (3, (1, 2, 10, 13), (1, 2, 10, 13, 19), 9778), (3, (0, 1, 9, 12), (0, 1, 9, 12, 18), 5040),
    (3, (0, 1, 9, 12), (0, 1, 12, 18), 5031), (3, (2, 3, 11, 14), (2, 3, 11, 14, 20), 5039),
    (4, (1, 2, 3, 6, 12), (1, 2, 3, 12, 14), 1286), (4, (0, 1, 4, 7, 12), (1, 4, 7, 12, 16), 1004),
    (5, (1, 3, 5, 8), (1, 3, 5, 8, 18), 308), (5, (0, 2, 4, 6, 10), (2, 4, 6, 10, 20), 220),
)


def first_other(one, other, people):
    """The least one below people with another value in one dict than in the other, or None."""
    return next((person for person in range(people) if one.get(person) != other.get(person)), None)


def first_alone(one, other, people):
    """The least one below people who is in one dict alone, or None."""
    return next((person for person in range(people) if (person in one) != (person in other)), None)


class Lines(unittest.TestCase):
    def test_all_pairs_of_rules_against_the_plain_walks(self):
        told = {rule: told_ticks(rule, (), 40) for rule in all_rules()}
        draw = random.Random(113)
        some = all_rules(4)
        pairs = list(product(some, some)) + [tuple(draw.sample(all_rules(), 2)) for _ in range(3000)]
        alike = 0
        for rule, other in pairs:
            person = first_other(told[rule], told[other], 40)
            self.assertEqual(part_line(rule, other), person, (rule, other))
            alike += person is None
        self.assertGreater(alike, 100)

    def test_one_step_more_that_may_help_nobody(self):
        alike = set()
        for rule in all_rules():
            for step in range(1, 7):
                if step not in rule and len(rule) < 4:
                    longer = rule + (step,)
                    person = first_other(told_ticks(rule, (), 60), told_ticks(longer, (), 60), 60)
                    self.assertEqual(part_line(rule, longer), person, longer)
                    self.assertEqual(part_line(longer, rule), person, longer)
                    if person is None:
                        alike.add((rule, longer))
        self.assertIn(((1,), (1, 2)), alike)
        self.assertIn(((2, 1), (2, 1, 3)), alike)
        self.assertNotIn(((1,), (1, 3)), alike)

    def test_rules_that_are_alike_are_so_far_away_too(self):
        draw = random.Random(127)
        pairs = [(rule, other) for rule in all_rules() for other in draw.sample(all_rules(), 8)]
        alike = [(rule, other) for rule, other in pairs if rule != other and part_line(rule, other) is None]
        self.assertGreater(len(alike), 5)
        for rule, other in alike:
            self.assertEqual(growth(rule), growth(other))
            far, away = FarTicks(rule), FarTicks(other)
            for person in draw.sample(range(FAR - 50, FAR + 1), 5):
                self.assertEqual(far.tick((), person), away.tick((), person), (rule, other))
                self.assertEqual(tick_of(rule, (), person), tick_of(other, (), person), (rule, other))

    def test_it_is_the_same_the_other_way_round(self):
        draw = random.Random(131)
        for _ in range(2000):
            rule, other = draw.choice(all_rules()), draw.choice(all_rules())
            self.assertEqual(part_line(rule, other), part_line(other, rule), (rule, other))

    def test_known_ones(self):
        self.assertIsNone(part_line((1,), (1, 2)))
        self.assertIsNone(part_line(rule=(3, 1), other=(3, 1)))
        self.assertIsNone(part_line((2, 1), (2, 1, 4)))
        self.assertEqual(part_line((1, 2), (2, 1)), 1)
        self.assertEqual(part_line((1,), (2,)), 1)
        self.assertEqual(part_line((2,), (2, 4, 5)), 5)
        self.assertEqual(part_line((2, 4), (4, 2)), 2)
        # Three calls by steps of 2 are as early as the third one of 0.
        self.assertIsNone(part_line((2, 3), (2, 3, 6)))
        self.assertEqual(part_line((5, 6), (5,)), 6)
        self.assertEqual(part_line((1, 6), (1, 5, 6)), 5)
        self.assertEqual(part_line((5, 4, 3), (5, 4, 3, 6)), 6)


class Scaled(unittest.TestCase):
    def compare(self, scaled, other, people, told=None):
        told = told or {}
        one = told.get(scaled) or told_scaled(scaled, people)
        two = told.get(other) or told_scaled(other, people)
        person = first_alone(one, two, people)
        self.assertEqual(part_scaled(scaled, other), person, (scaled, other))
        self.assertEqual(part_scaled(other, scaled), person, (scaled, other))
        return person

    def test_rules_of_few_adds(self):
        draw = random.Random(137)
        for scale in (2, 3, 4, 5):
            rules = [scaled for many in (1, 2, 3) for scaled in all_adds(scale, many, 6)]
            told = {scaled: told_scaled(scaled, 400) for scaled in rules}
            pairs = list(combinations(rules, 2)) + [(scaled, scaled) for scaled in rules]
            for scaled, other in draw.sample(pairs, 900):
                self.compare(scaled, other, 400, told)

    def test_rules_of_which_all_are_told_nearly_alike(self):
        draw = random.Random(139)
        found = []
        for scale in (2, 3, 4, 5):
            alike = {}
            for _ in range(4000):
                adds = tuple(sorted(draw.sample(range(21), draw.randrange(1, 6))))
                early = tuple(sorted(told_scaled((scale, adds), 30)))
                alike.setdefault(early, {})[adds] = True
            groups = [group for group in alike.values() if len(group) > 1]
            for group in draw.sample(groups, min(len(groups), 40)):
                adds, others = draw.sample(list(group), 2)
                found.append(self.compare((scale, adds), (scale, others), 3000))
        self.assertGreater(found.count(None), 10)
        self.assertGreater(len([person for person in found if person and person > 40]), 20)

    def test_those_that_part_late(self):
        for scale, adds, others, person in LATE:
            self.assertEqual(self.compare((scale, adds), (scale, others), person + 1), person)
            self.assertIsNone(first_alone(told_scaled((scale, adds), person), told_scaled((scale, others), person), person))

    def test_other_orders_are_alike(self):
        draw = random.Random(149)
        for scale in (2, 3, 4, 5):
            for _ in range(30):
                adds = draw.sample(range(21), draw.randrange(1, 6))
                self.assertIsNone(part_scaled((scale, tuple(adds)), (scale, tuple(adds[::-1]))))

    def test_full_rules_with_one_more_are_alike(self):
        for add in range(2, 21):
            self.assertIsNone(part_scaled((2, (0, 1)), (2, (add, 1, 0))))
            self.assertIsNone(part_scaled((2, (0, 1, add)), (2, (1, 2))))

    def test_known_ones(self):
        self.assertIsNone(part_scaled(scaled=(2, (0,)), other=(2, (0,))))
        self.assertEqual(part_scaled((2, (0,)), (2, (1,))), 1)
        self.assertEqual(part_scaled((2, (0, 20)), (2, (0,))), 20)
        self.assertEqual(part_scaled((5, (0, 1, 2, 3)), (5, (0, 1, 2, 3, 4))), 4)
        self.assertEqual(part_scaled((3, (1, 2)), (3, (1, 2, 0))), 3)
        self.assertEqual(part_scaled((5, (1, 2, 3, 4)), (5, (1, 2, 3, 4, 5))), 5)
        self.assertIsNone(part_scaled((5, (1, 2, 3, 4, 5)), (5, (4, 3, 2, 1, 0))))

    def test_unlike_scales(self):
        for scale, other in product((2, 3, 4, 5), repeat=2):
            if scale != other:
                for adds in ((0,), (0, 1, 2, 3, 4), (20, 1)):
                    refuse(self, lambda: part_scaled((scale, adds), (other, adds)), OutOfPlace, None)
                refuse(self, lambda: part_scaled((scale, (1, 1)), (other, (0,))), BadRule, "same")
                refuse(self, lambda: part_scaled((scale, (1,)), (other, (0, 21))), BadRule, "step")


class Arguments(unittest.TestCase):
    def test_wrong_ones(self):
        refuse_each(self, part_line, ("rule", "other"), {"other": (2, 1)}, {"other": BAD_RULES})
        refuse_each(self, part_scaled, ("scaled", "other"), {"other": (2, (1,))}, {"other": BAD_SCALED})

    def test_the_first_wrong_one_counts(self):
        refuse(self, lambda: part_line((0,), ()), BadRule, "step")
        refuse(self, lambda: part_line((1, 1), (0,)), BadRule, "same")
        refuse(self, lambda: part_scaled((2, (1, 1)), (9, (0,))), BadRule, "same")
        refuse(self, lambda: part_scaled(other=(3, ()), scaled=(2, (21,))), BadRule, "step")


if __name__ == "__main__":
    unittest.main()
