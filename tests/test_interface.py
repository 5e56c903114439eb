import importlib
import inspect
import unittest

INTERFACE = {
    "errors": {
        "BadRule": ("part",), "BadPaper": ("part",), "BadText": ("line",), "OutOfPlace": ("text",),
        "TooGreat": ("most",), "Nothing": ("text",), "BadKind": ("part",),
    },
    "steps": {
        "need_rule": ("thing",), "tick_of": ("rule", "absent", "person"), "callers": ("rule", "absent", "person"),
        "last_tick": ("rule", "absent", "people"),
    },
    "losses": {
        "is_safe": ("rule", "away"), "strength": ("rule",), "lost": ("rule", "away"), "safe_paper": ("rule", "away"),
        "check_safe": ("rule", "away", "paper"),
    },
    "latest": {
        "latest": ("rule", "away", "people"), "latest_absence": ("rule", "away", "people"), "growth": ("rule",),
    },
    "scales": {
        "need_scaled": ("thing",), "tick_at": ("scaled", "person"), "caller_of": ("scaled", "person"),
        "first_never": ("scaled",), "full_paper": ("scaled",), "check_full": ("scaled", "paper"), "is_plain": ("scaled",),
        "last_at": ("scaled", "people"), "many_told": ("scaled", "people"),
    },
    "likes": {"part_line": ("rule", "other"), "part_scaled": ("scaled", "other")},
    "shapes": {
        "need_kind": ("thing",), "is_lot": ("people", "value"), "most_told": ("calls", "ticks"), "sizes": ("kind", "count"),
    },
    "ticks": {
        "told_at": ("kind", "people", "lot", "person"), "called_by": ("kind", "people", "lot", "person"),
        "calls_of": ("kind", "people", "lot", "person"), "last_tick": ("kind", "people", "lot"),
    },
    "worst": {
        "worst_tick": ("kind", "people", "missing"), "worst_lot": ("kind", "people", "missing"),
        "worst_paper": ("kind", "people", "missing"), "check_worst": ("kind", "people", "missing", "paper"),
    },
    "best": {"least_tick": ("people", "calls"), "is_best": ("kind", "people"), "best_kinds": ("people",)},
    "backs": {"back_tick": ("kind", "people", "lot"), "ready_at": ("kind", "people", "lot", "person")},
}


class Interface(unittest.TestCase):
    def test_each_name_is_defined_in_its_file_with_its_arguments(self):
        for file, names in INTERFACE.items():
            module = importlib.import_module("callsdown." + file)
            for name, arguments in names.items():
                with self.subTest(file=file, name=name):
                    thing = getattr(module, name)
                    self.assertEqual(thing.__module__, module.__name__)
                    self.assertEqual(tuple(inspect.signature(thing).parameters), arguments)


if __name__ == "__main__":
    unittest.main()
