import random
import unittest
from itertools import permutations

from callsdown.errors import OutOfPlace
from callsdown.scales import caller_of, is_plain, last_at, many_told, need_scaled, tick_at
from tests.plain import all_adds, told_scaled
from tests.plain_scaled import KNOWN, SCALES, FarTold, some_rules
from tests.wrong import BAD_SCALED, FAR, refuse, refuse_each


def best_callers(scaled, told, below):
    """For each person below it who tells them first, the least one of several, by all calls of those who are told."""
    scale, adds = scaled
    first = {}
    for caller in sorted(told):
        for place, add in enumerate(adds, start=1):
            person = scale * caller + add
            if person != caller and person < below:
                first[person] = min(first.get(person, (FAR, FAR)), (told[caller] + place, caller))
    return {person: caller for person, (_, caller) in first.items()}


class NeedScaled(unittest.TestCase):
    def test_every_scaled_rule_is_given_back(self):
        for scale in SCALES:
            for many in (1, 2, 3):
                for rule in all_adds(scale, many):
                    self.assertIs(need_scaled(rule), rule)
            for adds in permutations((0, 3, 7, 19, 20)):
                rule = (scale, adds)
                self.assertIs(need_scaled(rule), rule)
        self.assertEqual(need_scaled(thing=(5, (20, 0))), (5, (20, 0)))

    def test_what_is_none_is_refused_with_its_part(self):
        for thing, error, part in BAD_SCALED:
            with self.subTest(thing=repr(thing)[:60]):
                refuse(self, lambda: need_scaled(thing), error, part)
                refuse(self, lambda: need_scaled(thing=thing), error, part)


class Near(unittest.TestCase):
    """People of small numbers, against the calls made tick by tick."""

    def test_ticks_and_callers(self):
        for scaled in some_rules(47, 60):
            told = told_scaled(scaled, 130)
            callers = best_callers(scaled, told, 130)
            for person in range(130):
                with self.subTest(scaled=scaled, person=person):
                    self.assertEqual(tick_at(scaled, person), told.get(person))
                    self.assertEqual(caller_of(scaled, person), callers.get(person))

    def test_rules_of_few_adds_in_each_order(self):
        for scale in SCALES:
            for adds in ((2, 1), (0, 5), (1, 4, 6), (2, 3, 4, 6)):
                for row in permutations(adds):
                    told = told_scaled((scale, row), 90)
                    callers = best_callers((scale, row), told, 90)
                    for person in range(90):
                        self.assertEqual(tick_at((scale, row), person), told.get(person), (scale, row, person))
                        self.assertEqual(caller_of((scale, row), person), callers.get(person), (scale, row, person))

    def test_the_person_0(self):
        for scaled in some_rules(53, 10):
            self.assertEqual(tick_at(scaled, 0), 0)
            self.assertIsNone(caller_of(scaled, 0))

    def test_a_call_to_the_own_number_is_not_made_but_costs_its_tick(self):
        self.assertIsNone(tick_at((2, (0,)), 1))
        self.assertEqual(tick_at((2, (0, 1)), 1), 2)
        self.assertEqual(tick_at((2, (1, 0)), 1), 1)
        self.assertEqual([tick_at((3, (0, 1)), person) for person in range(5)], [0, 2, None, 3, 4])

    def test_several_callers(self):
        # 6 is called by 1 at tick 5 + 3, by 2 at 3 + 3, by 3 at 2 + 1: the last one of them comes first.
        scaled = (2, (0, 3, 2, 4, 1))
        self.assertEqual([tick_at(scaled, person) for person in range(7)], [0, 5, 3, 2, 4, 7, 3])
        self.assertEqual(caller_of(scaled, 6), 3)
        # 3 is called by 0 at tick 2, and by 1 at 1 + 1; 5 by 1 at 2 + 3, and by 2 at 3 + 2: the least one counts.
        self.assertEqual([tick_at((2, (1, 3)), person) for person in range(4)], [0, 1, None, 2])
        self.assertEqual(caller_of((2, (1, 3)), 3), 0)
        self.assertEqual([tick_at((2, (0, 1, 3)), person) for person in range(6)], [0, 2, 3, 3, 4, 5])
        self.assertEqual(caller_of((2, (0, 1, 3)), 5), 1)
        # 4 is called by 1 at tick 2 + 4, and by 2 at 3 + 1.
        self.assertEqual(tick_at((2, (0, 1, 3, 2)), 4), 4)
        self.assertEqual(caller_of((2, (0, 1, 3, 2)), 4), 2)

    def test_there_are_ties_and_unlike_ticks_among_those_compared(self):
        ties = unlike = 0
        for scaled in some_rules(47, 60):
            far = FarTold(scaled)
            for person in range(130):
                ticks = sorted(far.calls(person))
                ties += len(ticks) > 1 and ticks[0][0] == ticks[1][0]
                unlike += len(ticks) > 1 and ticks[0][0] < ticks[1][0] and ticks[0][1] > ticks[1][1]
        self.assertGreater(ties, 200)
        self.assertGreater(unlike, 500)


class Far(unittest.TestCase):
    """People of numbers near 10 ** 30."""

    def test_by_those_who_may_call_them(self):
        draw = random.Random(59)
        told = 0
        for scaled in some_rules(61, 30):
            far = FarTold(scaled)
            for person in [FAR, FAR - 1] + draw.sample(range(FAR - 40, FAR - 1), 4) + [draw.randrange(FAR)]:
                with self.subTest(scaled=scaled, person=person):
                    self.assertEqual(tick_at(scaled, person), far.tick(person))
                    self.assertEqual(caller_of(scaled, person), far.caller(person))
                    told += far.tick(person) is not None
        self.assertGreater(told, 200)

    def test_the_reference_itself_against_the_calls(self):
        for scaled in some_rules(61, 10):
            far = FarTold(scaled)
            told = told_scaled(scaled, 100)
            for person in range(100):
                self.assertEqual(far.tick(person), told.get(person), (scaled, person))

    def test_by_the_calls_from_0_on(self):
        draw = random.Random(67)
        for scaled in some_rules(71, 20):
            scale, adds = scaled
            for _ in range(3):
                person = tick = caller = 0
                while True:
                    at = draw.randrange(len(adds))
                    behind = scale * person + adds[at]
                    if behind > FAR or behind == person == 0 and adds == (0,):
                        break
                    if behind != person:
                        person, tick, caller = behind, tick + at + 1, person
                self.assertLessEqual(tick_at(scaled, person), tick, (scaled, person))
                if is_plain(scaled) and person:
                    self.assertEqual(tick_at(scaled, person), tick, (scaled, person))
                    self.assertEqual(caller_of(scaled, person), caller, (scaled, person))

    def test_known_numbers(self):
        ones = FAR.bit_length() + bin(FAR).count("1")
        self.assertEqual(tick_at((2, (0, 1)), FAR), ones)
        self.assertEqual(caller_of((2, (0, 1)), FAR), FAR // 2)
        self.assertEqual(tick_at((2, (1, 0)), 2 ** 99 - 1), 99)
        self.assertIsNone(tick_at((5, (1, 2, 3, 4)), FAR))
        self.assertIsNone(caller_of((5, (1, 2, 3, 4)), FAR))


class Plain(unittest.TestCase):
    def rules(self, many):
        draw = random.Random(73)
        found = [scaled for scaled in KNOWN if len({add % scaled[0] for add in scaled[1]}) == len(scaled[1])]
        for scale in SCALES:
            for _ in range(many):
                rests = draw.sample(range(scale), draw.randrange(1, scale + 1))
                adds = [draw.choice([add for add in range(21) if add % scale == rest]) for rest in rests]
                found.append((scale, tuple(adds)))
        return found

    def test_is_plain(self):
        for scaled in some_rules(79, 300):
            scale, adds = scaled
            pairs = [(one, other) for one in adds for other in adds if one < other and (other - one) % scale == 0]
            self.assertIs(is_plain(scaled), not pairs, scaled)
        self.assertIs(is_plain(scaled=(5, (0, 11, 17, 8, 4))), True)
        self.assertIs(is_plain((2, (0, 1, 2))), False)

    def test_by_a_plain_rule_everybody_is_called_by_one_at_most(self):
        for scaled in self.rules(20):
            self.assertTrue(is_plain(scaled))
            far = FarTold(scaled)
            for person in list(range(60)) + [FAR]:
                self.assertLessEqual(len(far.calls(person)), 1)

    def test_few_people(self):
        for scaled in self.rules(60):
            told = told_scaled(scaled, 150)
            for people in range(1, 151):
                ticks = [told[person] for person in range(people) if person in told]
                self.assertEqual(many_told(scaled, people), len(ticks), (scaled, people))
                self.assertEqual(last_at(scaled, people), max(ticks), (scaled, people))

    def test_more_people(self):
        draw = random.Random(83)
        for scaled in self.rules(10):
            told = told_scaled(scaled, 20000)
            for people in draw.sample(range(1, 20001), 5):
                ticks = [tick for person, tick in told.items() if person < people]
                self.assertEqual(many_told(scaled, people), len(ticks), (scaled, people))
                self.assertEqual(last_at(scaled, people), max(ticks), (scaled, people))

    def test_one_person_alone(self):
        for scaled in self.rules(20):
            self.assertEqual(many_told(scaled, 1), 1)
            self.assertEqual(last_at(scaled, 1), 0)

    def test_one_person_more_near_the_greatest_number(self):
        draw = random.Random(89)
        for scaled in self.rules(25):
            far = FarTold(scaled)
            for people in [FAR - 1] + draw.sample(range(FAR - 50, FAR - 1), 4) + [draw.randrange(1, FAR)]:
                tick = far.tick(people)
                more = 0 if tick is None else 1
                self.assertEqual(many_told(scaled, people + 1), many_told(scaled, people) + more, (scaled, people))
                self.assertEqual(last_at(scaled, people + 1), max(last_at(scaled, people), tick or 0), (scaled, people))

    def test_rules_by_figures_for_great_numbers(self):
        draw = random.Random(97)
        for scale in SCALES:
            for many in range(1, scale + 1):
                adds = tuple(draw.sample(range(scale), many))
                for people in (FAR, FAR - 7, draw.randrange(1, FAR), scale ** 40, scale ** 40 + 1, scale, 2, 3):
                    told, last = self.by_figures(scale, adds, people)
                    self.assertEqual(many_told((scale, adds), people), told, (scale, adds, people))
                    self.assertEqual(last_at((scale, adds), people), last, (scale, adds, people))

    def by_figures(self, scale, adds, people):
        """How many below people are 0 or have figures out of ADDS alone, with the greatest sum of places."""
        figures = []
        while people:
            people, figure = divmod(people, scale)
            figures.insert(0, figure)
        places = {add: place for place, add in enumerate(adds, start=1)}
        # Pairs of the places spent on the first figures, and how many figures behind them are free.
        groups = [(places[add], free) for free in range(len(figures) - 1) for add in adds if add]
        spent = 0
        for at, figure in enumerate(figures):
            free = len(figures) - at - 1
            groups += [(spent + places[add], free) for add in adds if add < figure and (at or add)]
            if figure not in places:
                break
            spent += places[figure]
        most = len(adds)
        told = 1 + sum(most ** free for _, free in groups)
        return told, max((ticks + most * free for ticks, free in groups), default=0)

    def test_known_numbers(self):
        self.assertEqual(many_told((2, (0, 1)), FAR), FAR)
        self.assertEqual(many_told((2, (0,)), FAR), 1)
        self.assertEqual(last_at((2, (0,)), FAR), 0)
        self.assertEqual(many_told((5, (5, 3, 4, 1, 2)), FAR), FAR)
        self.assertEqual(many_told((2, (1,)), 2 ** 99), 100)
        self.assertEqual(last_at(scaled=(2, (1,)), people=2 ** 99), 99)
        self.assertEqual(many_told(scaled=(3, (0, 1)), people=3 ** 60), 2 ** 60)
        self.assertEqual(last_at((3, (0, 1)), 3 ** 60), 120)

    def test_rules_that_are_not_plain(self):
        for scaled in ((2, (0, 2)), (2, (0, 1, 2)), (3, (1, 4)), (5, (0, 1, 2, 3, 20)), (4, (20, 3, 0))):
            for people in (1, 10, FAR):
                refuse(self, lambda: last_at(scaled, people), OutOfPlace, None)
                refuse(self, lambda: many_told(scaled, people), OutOfPlace, None)
            refuse(self, lambda: last_at(scaled, 0), OutOfPlace, None)


class Arguments(unittest.TestCase):
    def test_wrong_ones(self):
        for function in (tick_at, caller_of):
            refuse_each(self, function, ("scaled", "person"))
        for function in (last_at, many_told):
            refuse_each(self, function, ("scaled", "people"))
        refuse_each(self, is_plain, ("scaled",))

    def test_equal_calls_give_the_same(self):
        for scaled in KNOWN:
            self.assertEqual(caller_of(scaled, 60), caller_of(scaled, 60))


if __name__ == "__main__":
    unittest.main()
