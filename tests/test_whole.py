"""The general rules of the document, for all calls of the whole program, and an example of each of its points."""

import importlib
import unittest

from callsdown.errors import BadText
from tests.test_interface import INTERFACE
from tests.wrong import GOOD

KIND = ("parts", 2)
# Arguments that are right for all calls that take one of that name, but for those of MORE.
GIVEN = dict(
    GOOD, other=(2, 1), calls=3, ticks=9, value=(1, 2), log=((0, 0), (3, -1)), string="1 2", thing=(1, 2), kind=("heap", 2), part="x",
    line=1, text="x", most=1,
)
MORE = {
    "part_scaled": {"other": (2, (1,))}, "need_scaled": {"thing": (2, (0, 1))}, "need_kind": {"thing": ("half",)},
    "read_scaled": {"string": "2:0 1"}, "read_kind": {"string": "half"}, "log_of": {"people": 9}, "latest_absence": {"people": 30},
}
PAPERS = {"check_safe": "safe_paper", "check_full": "full_paper", "check_worst": "worst_paper"}


def module(file):
    return importlib.import_module("callsdown." + file)


def all_functions():
    """Each function of the interface, with right arguments."""
    for file, names in INTERFACE.items():
        for name, arguments in names.items():
            if file != "errors" and name not in ("Tree", "Desk", "under"):
                given = dict(GIVEN, **MORE.get(name, {}))
                if name in PAPERS:
                    paper = getattr(module(file), PAPERS[name])
                    given["paper"] = paper(*[given[one] for one in arguments if one != "paper"])
                yield getattr(module(file), name), {one: given[one] for one in arguments}


class General(unittest.TestCase):
    def test_equal_calls_give_the_same_by_position_and_by_name(self):
        called = 0
        for function, given in all_functions():
            with self.subTest(function=function.__name__):
                result = function(*given.values())
                self.assertEqual(result, function(**given))
                self.assertEqual(result, function(**dict(reversed(given.items()))))
                self.assertEqual(repr(result), repr(function(*given.values())))
                called += 1
        self.assertGreater(called, 45)

    def test_true_is_no_integer_wherever_one_is_asked_for(self):
        tried = 0
        for function, given in all_functions():
            for name in given:
                if type(given[name]) is int and name != "thing":
                    for thing in (True, False):
                        with self.assertRaises(ValueError, msg=(function.__name__, name)) as held:
                            function(**dict(given, **{name: thing}))
                        self.assertEqual(type(held.exception).__name__, "OutOfPlace")
                        tried += 1
        self.assertGreater(tried, 50)

    def test_tuples_that_are_told_are_tuples(self):
        for function, given in all_functions():
            for name in ("absent", "lot", "rule", "scaled", "kind", "log", "paper", "other"):
                if name in given:
                    with self.assertRaises(ValueError, msg=(function.__name__, name)):
                        function(**dict(given, **{name: list(given[name])}))

    def test_an_argument_too_many_or_too_few(self):
        for function, given in all_functions():
            self.assertRaises(TypeError, function, *given.values(), 1)
            self.assertRaises(TypeError, function, *list(given.values())[1:])


class Points(unittest.TestCase):
    """Each point of the document in one of its plainest examples; the other files go into each."""

    def test_2_steps_on_numbers(self):
        self.assertEqual(module("steps").tick_of((1, 2), (4,), 7), 7)
        self.assertIsNone(module("steps").tick_of((1, 2), (4,), 4))

    def test_3_safe_rules(self):
        self.assertEqual(module("losses").strength((1, 2)), 1)
        self.assertEqual(module("losses").safe_paper((1, 2), 2), ("lost", (1, 2), 3))

    def test_4_the_latest_ticks(self):
        self.assertEqual(module("latest").latest((1, 2), 0, 10 ** 30), 10 ** 30 - 1)
        self.assertEqual(module("likes").part_line((1,), (1, 3)), 3)

    def test_5_scaled_numbers(self):
        self.assertEqual(module("scales").full_paper((2, (0, 1))), ("full", ((1, 1),)))
        self.assertEqual(module("scales").first_never((3, (0, 1))), 2)

    def test_6_parts(self):
        self.assertEqual(module("shapes").sizes(("half",), 10), (5, 3, 1, 1))

    def test_7_missing_ones(self):
        self.assertEqual(module("ticks").told_at(KIND, 7, (1,), 2), 2)
        self.assertEqual(module("ticks").last_tick(KIND, 7, (1,)), 5)

    def test_8_the_worst_lots(self):
        paper = module("worst").worst_paper(KIND, 7, 1)
        self.assertEqual(module("worst").check_worst(KIND, 7, 1, paper), 5)

    def test_9_the_least_tick(self):
        self.assertEqual(module("best").least_tick(1000, None), 10)

    def test_10_calling_back(self):
        self.assertEqual(module("backs").back_tick(KIND, 7, ()), 6)

    def test_11_logs(self):
        self.assertEqual(module("logs").fitting(KIND, 7, 1, ((1, -1),)), ((1,),))

    def test_12_rounds(self):
        tree = module("trees").Tree(KIND, 7)
        self.assertIsNone(tree.miss(1))
        self.assertEqual(tree(2), (2,))
        self.assertIsNone(tree.back(many=2))
        self.assertEqual((tree.missing, tree(2)), ((), (1, 2, 4)))

    def test_13_texts_and_the_desk(self):
        self.assertEqual(module("texts").scaled_text((2, (0, 1))), "2:0 1")
        self.assertRaises(BadText, module("texts").read_rule, "1 2\n")
        desk = module("desk").Desk()
        self.assertEqual([desk.say(line) for line in ("rule 1 2", "lost 2", "lost 3 4")], ["done", "3 1 2", "no"])


if __name__ == "__main__":
    unittest.main()
