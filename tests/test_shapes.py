import random
import unittest
from itertools import combinations

from callsdown.errors import OutOfPlace
from callsdown.shapes import is_lot, most_told, need_kind, sizes
from tests.plain_trees import KINDS, most, parted
from tests.wrong import BAD_KINDS, BAD_PEOPLE, FAR, NO_NUMBERS, refuse, refuse_each

NO_CALLS = [(thing, OutOfPlace, None) for thing in NO_NUMBERS if thing is not None] + [
    (thing, OutOfPlace, None) for thing in (0, 1, 9, 10, FAR)]
NO_TICKS = [(thing, OutOfPlace, None) for thing in NO_NUMBERS + [201, 202, FAR]]


def far_heap(degree, count):
    """The sizes of the PARTS of 0 in a great heap, by how many rows are full."""
    rows, row = 0, 1
    while rows + row * degree <= count:
        row *= degree
        rows += row
    full = (rows // degree, row, count - rows)
    found = [full[0] + max(0, min(full[1], full[2] - at * full[1])) for at in range(degree)]
    return tuple(size for size in found if size)


class NeedKind(unittest.TestCase):
    def test_every_kind_is_given_back(self):
        for kind in KINDS:
            self.assertIs(need_kind(kind), kind)
        self.assertEqual(need_kind(thing=("half",)), ("half",))

    def test_what_is_none_is_refused_with_its_part(self):
        for thing, error, part in BAD_KINDS:
            with self.subTest(thing=repr(thing)[:60]):
                refuse(self, lambda: need_kind(thing), error, part)
                refuse(self, lambda: need_kind(thing=thing), error, part)

    def test_what_calls_itself_equal_to_a_word_is_none(self):
        class LikeAll:
            def __eq__(self, other):
                return True

            def __hash__(self):
                return hash("half")

        for thing in ((LikeAll(),), (LikeAll(), 2), LikeAll()):
            refuse(self, lambda: need_kind(thing), BAD_KINDS[0][1], "form")


class Lots(unittest.TestCase):
    def test_all_that_are_lots(self):
        for people in (1, 2, 3, 4, 7, FAR):
            near = list(range(1, min(people, 6))) + ([FAR - 2, FAR - 1] if people == FAR else [])
            for many in range(6):
                for lot in combinations(near, many):
                    self.assertIs(is_lot(people, lot), many <= 3, (people, lot))

    def test_what_is_none(self):
        for people in (1, 2, 5, 10, FAR):
            for value in (
                True, False, None, 0, 1, "", "1", "12", b"", [], [1], {}, {1: 2}, set(), {1}, range(0), range(1, 2), 1.0,
                (0,), (0, 1), (-1,), (-1, 1), (people,), (1, people), (people + 1,), (1, 2, FAR), (FAR, FAR + 1), (10 ** 999,),
                (True,), (False,), (1, True), (True, 2), ("1",), (1, "2"), (None,), (1, None), (1.0,), (1, 2.0), ([1],),
                ((1,),), (1, (2,)), (1, 1), (2, 1), (1, 3, 2), (1, 2, 2), (3, 2, 1), (1, 2, 3, 4), (4, 3, 2, 1), (None,) * 4,
                object(), is_lot, int, ((),),
            ):
                self.assertIs(is_lot(people, value), False, (people, value))

    def test_of_one_person_alone_only_the_empty_one(self):
        self.assertIs(is_lot(1, ()), True)
        self.assertIs(is_lot(people=2, value=(1,)), True)
        self.assertIs(is_lot(people=1, value=(1,)), False)


class Most(unittest.TestCase):
    def test_by_its_own_sum(self):
        for calls in [None] + list(range(2, 9)):
            for ticks in list(range(30)) + [99, 150, 199, 200]:
                self.assertEqual(most_told(calls, ticks), most(calls, ticks), (calls, ticks))

    def test_known_ones(self):
        for ticks in range(201):
            self.assertEqual(most_told(None, ticks), 2 ** ticks)
        self.assertEqual([most_told(2, ticks) for ticks in range(8)], [1, 2, 4, 7, 12, 20, 33, 54])
        self.assertEqual([most_told(3, ticks) for ticks in range(7)], [1, 2, 4, 8, 15, 28, 52])
        self.assertEqual([most_told(8, ticks) for ticks in range(11)], [2 ** ticks for ticks in range(9)] + [511, 1020])
        self.assertEqual(most_told(calls=2, ticks=0), 1)
        fibonacci = [1, 1]
        while len(fibonacci) < 204:
            fibonacci.append(sum(fibonacci[-2:]))
        self.assertEqual(most_told(2, 200), fibonacci[202] - 1)


class Sizes(unittest.TestCase):
    def test_all_kinds_against_a_plain_parting(self):
        for kind in KINDS:
            for count in list(range(200)) + [255, 256, 257, 363, 364, 365, 400, 511, 584, 585]:
                parts = parted(kind, 0, list(range(1, count + 1)))
                self.assertEqual(sizes(kind, count), tuple(map(len, parts)), (kind, count))

    def test_the_plain_parting_takes_everybody_once(self):
        for kind in KINDS:
            for count in range(60):
                self.assertEqual(sorted(sum(parted(kind, 0, list(range(1, count + 1))), [])), list(range(1, count + 1)))

    def check_sum(self, kind, count, parts):
        self.assertIs(type(parts), tuple)
        self.assertTrue(all(type(size) is int and size > 0 for size in parts))
        self.assertEqual(sum(parts), count, (kind, count))
        if kind[0] == "parts":
            self.assertEqual(len(parts), min(kind[1], count))
            self.assertLessEqual(max(parts, default=0) - min(parts, default=0), 1)
            self.assertEqual(list(parts), sorted(parts, reverse=True))
        if kind[0] in ("best", "heap"):
            self.assertLessEqual(len(parts), kind[1])

    def test_great_numbers(self):
        draw = random.Random(151)
        counts = [FAR, FAR - 1, FAR - 2, 2 ** 99, 2 ** 99 - 1, 2 ** 99 - 2] + [draw.randrange(FAR) for _ in range(20)]
        for kind in KINDS:
            for count in counts + [draw.randrange(10 ** at) for at in range(1, 30)]:
                parts = sizes(kind, count)
                self.check_sum(kind, count, parts)
                if kind[0] == "half":
                    left = count
                    for size in parts:
                        self.assertEqual(size, left - left // 2)
                        left -= size
                if kind[0] == "heap":
                    self.assertEqual(parts, far_heap(kind[1], count), (kind, count))

    def test_the_best_ones_take_what_can_be_told_in_the_ticks_left(self):
        draw = random.Random(157)
        for calls in range(2, 9):
            mosts = [most(calls, ticks) for ticks in range(150)]
            counts = [FAR, FAR - 1] + [one + more for one in mosts if one < FAR for more in (-2, -1, 0, 1) if one + more >= 0]
            for count in counts + [draw.randrange(FAR) for _ in range(20)]:
                ticks = next(ticks for ticks in range(150) if mosts[ticks] >= count + 1)
                due, left = [], count
                for at in range(1, min(calls, ticks) + 1):
                    due.append(min(mosts[ticks - at], left))
                    left -= due[-1]
                self.assertEqual(left, 0)
                self.assertEqual(sizes(("best", calls), count), tuple(size for size in due if size), (calls, count))

    def test_the_far_heap_itself_against_the_plain_parting(self):
        for degree in range(2, 9):
            for count in range(300):
                plain = tuple(map(len, parted(("heap", degree), 0, list(range(1, count + 1)))))
                self.assertEqual(far_heap(degree, count), plain, (degree, count))

    def test_known_ones(self):
        self.assertEqual(sizes(("parts", 3), 10), (4, 3, 3))
        self.assertEqual(sizes(("parts", 8), 3), (1, 1, 1))
        self.assertEqual(sizes(("parts", 2), 1), (1,))
        self.assertEqual(sizes(("half",), 10), (5, 3, 1, 1))
        self.assertEqual(sizes(("half",), 7), (4, 2, 1))
        self.assertEqual(sizes(("best", 2), 11), (7, 4))
        self.assertEqual(sizes(("best", 2), 12), (12,))
        self.assertEqual(sizes(("best", 3), 7), (4, 2, 1))
        self.assertEqual(sizes(("heap", 2), 6), (3, 3))
        self.assertEqual(sizes(("heap", 2), 4), (3, 1))
        self.assertEqual(sizes(kind=("heap", 3), count=5), (3, 1, 1))
        self.assertEqual(sizes(("parts", 3), FAR), (FAR // 3 + 1, FAR // 3, FAR // 3))
        for kind in KINDS:
            self.assertEqual(sizes(kind, 0), ())
            self.assertEqual(sizes(kind, 1), (1,))


class Arguments(unittest.TestCase):
    def test_wrong_ones(self):
        refuse_each(self, sizes, ("kind", "count"))
        refuse_each(self, most_told, ("calls", "ticks"), {"calls": 3, "ticks": 4}, {"calls": NO_CALLS, "ticks": NO_TICKS})
        refuse_each(self, most_told, ("calls", "ticks"), {"calls": None, "ticks": 4}, {"ticks": NO_TICKS})
        refuse_each(self, is_lot, ("people", "value"), {"value": (1,)}, {"people": BAD_PEOPLE})

    def test_the_greatest_ones_are_taken(self):
        self.assertEqual(sum(sizes(("best", 2), FAR)), FAR)
        self.assertIs(is_lot(FAR, (FAR - 3, FAR - 2, FAR - 1)), True)
        self.assertIs(is_lot(FAR, (FAR - 2, FAR - 1, FAR)), False)


if __name__ == "__main__":
    unittest.main()
