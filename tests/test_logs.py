import random
import unittest

from callsdown.errors import BadKind, OutOfPlace
from callsdown.logs import fitting, is_clear, log_of
from tests.plain_trees import KINDS, all_lots, played, telling_lots
from tests.wrong import BAD_LOTS, BAD_PEOPLE, FAR, NO_NUMBERS, refuse, refuse_each

NO_PAIRS = (
    True, None, 1, "01", b"01", [0, 1], {0: 1}, (), (0,), (0, 0, 0), (1, -2), (1, -FAR), (1, True), (1, None), (1, "1"), (1, 1.0),
    (True, 1), ("1", 1), (None, 1), (1.0, 1), (-1, 1), (6, 1), (7, 1), (FAR, 1), ((1,), 1), (1, (1,)), ([], 1), (1, []),
)
NO_LOGS = [True, False, None, 1, "", "01", b"", [], [(0, 0)], {}, {(0, 0)}, {0: 0}, (0, 0), (1, 1), range(3), 1.0] + [
    ((0, 0), pair) for pair in NO_PAIRS] + [(pair,) for pair in NO_PAIRS] + [(pair, (5, 3)) for pair in NO_PAIRS] + [
    ((1, 1), (0, 0)), ((1, 1), (1, 1)), ((1, 1), (1, 2)), ((1, -1), (1, 1)), ((0, 0), (2, 1), (1, 1)), ((0, 0), (0, 1), (1, 1)),
    tuple((0, tick) for tick in range(61)), tuple((person, 1) for person in range(7)), ((5, 1), (4, 1)), ((5, 1), (4, 2)),
]
BAD_LOGS = [(thing, OutOfPlace, None) for thing in NO_LOGS]
BAD_FEW = BAD_PEOPLE + [(thing, OutOfPlace, None) for thing in (61, 62, 1000, FAR)]
BAD_AWAY = [(thing, OutOfPlace, None) for thing in NO_NUMBERS + [3, 4, FAR]]


def plain_log(kind, people, lot):
    told = played(kind, people, lot).told
    return tuple((person, told.get(person, -1)) for person in range(people))


class AllLots:
    """The logs of all LOTS of at most 2 people, each worked out once."""

    def __init__(self, kind, people):
        self.logs = {lot: dict(plain_log(kind, people, lot)) for lot in all_lots(people, 2)}

    def fitting(self, missing, log):
        return tuple(sorted(lot for lot, told in self.logs.items()
                            if len(lot) <= missing and all(told[person] == tick for person, tick in log)))


def telling_logs(whole, people, draw):
    """Parts of a true log, and some with something otherwise."""
    logs = [whole, (), whole[:1], whole[1:], whole[-1:]]
    for _ in range(4):
        logs.append(tuple(sorted(draw.sample(whole, draw.randrange(people + 1)))))
        logs.append(tuple(sorted(draw.sample(whole, min(people, draw.randrange(1, 4))))))
    for log in list(logs):
        if log:
            at = draw.randrange(len(log))
            person, tick = log[at]
            for other in (tick + 1, tick - 1, -1, 0, 1, FAR):
                if other >= -1:
                    logs.append(log[:at] + ((person, other),) + log[at + 1:])
    return logs


class Fitting(unittest.TestCase):
    def compare(self, kind, people, plain, log):
        many = []
        for missing in range(3):
            due = plain.fitting(missing, log)
            self.assertEqual(fitting(kind, people, missing, log), due, (kind, people, missing, log))
            self.assertIs(is_clear(kind, people, missing, log), len(due) == 1, (kind, people, missing, log))
            many.append(len(due))
        return many

    def test_few_people_against_all_lots(self):
        draw = random.Random(269)
        many = []
        for kind in KINDS:
            for people in [1, 2, 3, 4] + draw.sample(range(5, 16), 3):
                plain = AllLots(kind, people)
                for lot in draw.sample(sorted(plain.logs), min(4, len(plain.logs))):
                    for log in telling_logs(plain_log(kind, people, lot), people, draw):
                        many += self.compare(kind, people, plain, log)
        for count in (0, 1, 2):
            self.assertGreater(many.count(count), 500)

    def test_more_people(self):
        draw = random.Random(271)
        for kind in draw.sample(KINDS, 6) + [("half",), ("heap", 2)]:
            people = draw.choice((40, 59, 60))
            plain = AllLots(kind, people)
            for lot in draw.sample(sorted(plain.logs), 1):
                for log in draw.sample(telling_logs(plain_log(kind, people, lot), people, draw), 8):
                    self.compare(kind, people, plain, log)

    def test_true_logs_of_all_people_fit_one_lot_alone(self):
        draw = random.Random(277)
        for kind in KINDS:
            for people in (1, 2, 9, 30, 60):
                lots = all_lots(people, 2)
                for lot in draw.sample(lots, min(8, len(lots))):
                    log = log_of(kind, people, lot)
                    for missing in range(3):
                        due = (lot,) if len(lot) <= missing else ()
                        self.assertEqual(fitting(kind, people, missing, log), due)
                        self.assertIs(is_clear(kind, people, missing, log), len(lot) <= missing)

    def test_the_empty_log_fits_all(self):
        for kind in KINDS:
            for people in (1, 2, 5, 60):
                for missing in range(3):
                    due = tuple(sorted(all_lots(people, missing)))
                    self.assertEqual(fitting(kind, people, missing, ()), due)
                    self.assertIs(is_clear(kind, people, missing, ()), people == 1 or missing == 0)
        self.assertEqual(len(fitting(("half",), 60, 2, ())), 1 + 59 + 59 * 58 // 2)

    def test_known_ones(self):
        kind = ("parts", 2)
        self.assertEqual(fitting(kind, 7, 1, ((1, -1),)), ((1,),))
        self.assertEqual(fitting(kind, 7, 2, ((1, -1),)), ((1,), (1, 2), (1, 3), (1, 4), (1, 5), (1, 6)))
        self.assertEqual(fitting(kind, 7, 1, ((3, 3),)), ((), (1,), (2,), (4,), (5,), (6,)))
        self.assertEqual(fitting(kind, 7, 2, ((0, -1),)), ())
        self.assertEqual(fitting(kind, 7, 2, ((0, 1),)), ())
        self.assertEqual(fitting(kind, 7, 1, ((0, 0), (6, 5))), ((1,),))
        self.assertEqual(fitting(kind, 7, 1, ((6, 4),)), ((), (2,), (3,), (4,), (5,)))
        self.assertEqual(fitting(kind, 7, 2, ((1, -1), (2, -1), (3, -1))), ())
        self.assertEqual(fitting(kind=kind, people=7, missing=0, log=((1, 1),)), ((),))
        self.assertIs(is_clear(kind=kind, people=7, missing=2, log=((1, -1), (2, -1))), True)
        self.assertIs(is_clear(kind, 7, 1, ((6, 5),)), True)
        self.assertIs(is_clear(kind, 7, 1, ((6, 4),)), False)
        self.assertEqual(fitting(kind, 7, 2, ((1, FAR), (2, 10 ** 999))), ())


class Logs(unittest.TestCase):
    def test_of_all_people(self):
        draw = random.Random(281)
        for kind in KINDS:
            for people in (1, 2, 3, 8, 21, 60):
                for lot in telling_lots(kind, people, draw)[:30] if people > 2 else all_lots(people, 3):
                    log = log_of(kind, people, lot)
                    self.assertEqual(log, plain_log(kind, people, lot), (kind, people, lot))
        self.assertEqual(log_of(kind=("half",), people=4, lot=(1, 2)), ((0, 0), (1, -1), (2, -1), (3, 3)))
        self.assertEqual(log_of(("half",), 4, (1, 2, 3)), ((0, 0), (1, -1), (2, -1), (3, -1)))


class Arguments(unittest.TestCase):
    def test_wrong_ones(self):
        wrong = {"people": BAD_FEW, "missing": BAD_AWAY, "log": BAD_LOGS}
        for function in (fitting, is_clear):
            refuse_each(self, function, ("kind", "people", "missing", "log"), {"log": ((0, 0), (3, -1), (5, 3))}, wrong)
        lots = {"lot": BAD_LOTS + [(thing, OutOfPlace, None) for thing in ((6,), (1, 6))]}
        refuse_each(self, log_of, ("kind", "people", "lot"), {}, {**wrong, **lots})

    def test_the_greatest_numbers_are_taken_and_greater_ones_are_not(self):
        log = tuple((person, -1) for person in range(60))
        self.assertEqual(fitting(("half",), 60, 2, log), ())
        refuse(self, lambda: fitting(("half",), 61, 2, ()), OutOfPlace, None)
        refuse(self, lambda: fitting(("half",), 60, 3, ()), OutOfPlace, None)
        refuse(self, lambda: fitting(("half",), 60, 2, log + ((60, 1),)), OutOfPlace, None)
        refuse(self, lambda: log_of(("half",), 61, ()), OutOfPlace, None)
        refuse(self, lambda: is_clear(("half", 1), 61, 3, None), BadKind, "number")
        self.assertEqual(len(log_of(("half",), 60, (57, 58, 59))), 60)


if __name__ == "__main__":
    unittest.main()
