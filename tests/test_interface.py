import importlib
import inspect
import unittest

INTERFACE = {
    "errors": {
        "BadRule": ("part",), "BadPaper": ("part",), "BadText": ("line",), "OutOfPlace": ("text",),
        "TooGreat": ("most",), "Nothing": ("text",), "BadKind": ("part",),
    },
    "steps": {
        "need_rule": ("thing",), "tick_of": ("rule", "absent", "person"), "callers": ("rule", "absent", "person"),
        "last_tick": ("rule", "absent", "people"),
    },
    "losses": {
        "is_safe": ("rule", "away"), "strength": ("rule",), "lost": ("rule", "away"), "safe_paper": ("rule", "away"),
        "check_safe": ("rule", "away", "paper"),
    },
    "latest": {
        "latest": ("rule", "away", "people"), "latest_absence": ("rule", "away", "people"), "growth": ("rule",),
    },
    "scales": {
        "need_scaled": ("thing",), "tick_at": ("scaled", "person"), "caller_of": ("scaled", "person"),
        "first_never": ("scaled",), "full_paper": ("scaled",), "check_full": ("scaled", "paper"), "is_plain": ("scaled",),
        "last_at": ("scaled", "people"), "many_told": ("scaled", "people"),
    },
    "likes": {"part_line": ("rule", "other"), "part_scaled": ("scaled", "other")},
    "shapes": {
        "need_kind": ("thing",), "is_lot": ("people", "value"), "most_told": ("calls", "ticks"), "sizes": ("kind", "count"),
    },
    "ticks": {
        "told_at": ("kind", "people", "lot", "person"), "called_by": ("kind", "people", "lot", "person"),
        "calls_of": ("kind", "people", "lot", "person"), "last_tick": ("kind", "people", "lot"),
    },
    "worst": {
        "worst_tick": ("kind", "people", "missing"), "worst_lot": ("kind", "people", "missing"),
        "worst_paper": ("kind", "people", "missing"), "check_worst": ("kind", "people", "missing", "paper"),
    },
    "best": {"least_tick": ("people", "calls"), "is_best": ("kind", "people"), "best_kinds": ("people",)},
    "backs": {"back_tick": ("kind", "people", "lot"), "ready_at": ("kind", "people", "lot", "person")},
    "logs": {
        "fitting": ("kind", "people", "missing", "log"), "is_clear": ("kind", "people", "missing", "log"),
        "log_of": ("kind", "people", "lot"),
    },
    "trees": {"Tree": ("kind", "people"), "under": ("tree", "deed")},
    "texts": {
        "rule_text": ("rule",), "scaled_text": ("scaled",), "kind_text": ("kind",), "read_rule": ("string",),
        "read_scaled": ("string",), "read_kind": ("string",),
    },
    "desk": {"Desk": ()},
}
METHODS = {
    "trees": {"Tree": {
        "__call__": "(self, ticks=1)", "miss": "(self, person)", "there": "(self, person)", "__len__": "(self)",
        "back": "(self, *, many=1)", "copy": "(self)", "trial": "(self)",
    }},
    "desk": {"Desk": {"say": "(self, line)"}},
}
OPERATORS = {"trees": {"Tree": ("__contains__", "__eq__")}}
PROPERTIES = {
    "trees": {"Tree": ("kind", "people", "tick", "told", "missing", "is_done")}, "desk": {"Desk": ("rule", "scaled", "kind")},
}


class Interface(unittest.TestCase):
    def test_each_name_is_defined_in_its_file_with_its_arguments(self):
        for file, names in INTERFACE.items():
            module = importlib.import_module("callsdown." + file)
            for name, arguments in names.items():
                with self.subTest(file=file, name=name):
                    thing = getattr(module, name)
                    self.assertEqual(thing.__module__, module.__name__)
                    self.assertEqual(tuple(inspect.signature(thing).parameters), arguments)

    def test_each_method_is_defined_in_its_class_with_its_arguments(self):
        for file, classes in METHODS.items():
            for name, methods in classes.items():
                own = vars(getattr(importlib.import_module("callsdown." + file), name))
                for method, arguments in methods.items():
                    self.assertEqual(str(inspect.signature(own[method])), arguments, (name, method))

    def test_each_operator_and_property_is_defined_in_its_class(self):
        for file, classes in PROPERTIES.items():
            for name, listed in classes.items():
                own = vars(getattr(importlib.import_module("callsdown." + file), name))
                for one in listed:
                    self.assertIsInstance(own[one], property)
                    self.assertIsNone(own[one].fset)
                for one in OPERATORS.get(file, {}).get(name, ()):
                    self.assertIn(one, own)


if __name__ == "__main__":
    unittest.main()
