"""Wrong arguments, and a check that a call refuses them, the first one from the left first."""

from callsdown.errors import BadKind, BadRule, OutOfPlace

FAR = 10 ** 30

BAD_RULES = [(thing, BadRule, "form") for thing in (
    True, None, 1, "12", b"12", [1, 2], {1: 2}, {1, 2}, (), (1, 2, 3, 4, 5), (0, 0, 0, 0, 0), (9,) * 50, range(1, 3),
)] + [(thing, BadRule, "step") for thing in (
    (0,), (7,), (-1,), (True,), (1, True), ("1",), (1, None), (1, 2.0), ((1,),), ([1],), (1, 2, 3, 10 ** 999),
    (7, 7), (1, 1, 0), (True, True), (False, 2), ([], []),
)] + [(thing, BadRule, "same") for thing in (
    (1, 1), (2, 3, 2), (6, 5, 4, 6), (3, 3, 3, 3),
)]

NO_NUMBERS = [True, False, "1", b"1", None, [1], (1,), 1.0, {}, -1, -FAR, FAR + 1, 10 ** 999]
BAD_PERSONS = [(thing, OutOfPlace, None) for thing in NO_NUMBERS]
BAD_PEOPLE = [(thing, OutOfPlace, None) for thing in NO_NUMBERS + [0]]
BAD_AWAYS = [(thing, OutOfPlace, None) for thing in NO_NUMBERS + [5, 6, FAR]]
BAD_ABSENCES = [(thing, OutOfPlace, None) for thing in (
    True, False, "1", "", b"", None, [], [1], {}, {1}, 0, 1, -1, range(1, 3),
    (0,), (-1,), (0, 1), (FAR + 1,), (1, FAR + 1), (True,), (True, 2), (1, True), ("1",), (1, "2"), (None,), (1, None),
    ([1],), ((1,),), (1.0,), (1, 2.5), (1, 1), (2, 1), (1, 3, 2), (1, 2, 2), (FAR, 1), (1, 2, 3, 4, 5), (5, 4, 3, 2, 1),
)]

BAD_SCALED = [(thing, BadRule, "form") for thing in (
    True, None, 2, "2:0 1", b"ab", "ab", [2, (0, 1)], {2: (0, 1)}, (), (2,), ((0, 1),), (2, (0, 1), 3), (2, 0, 1), (2, [0, 1]),
    (2, {0, 1}), (2, {0: 1}), (2, "01"), (2, None), (2, 1), (2, True), (2, ()), (2, (0, 1, 2, 3, 4, 5)), ((0, 1), 2),
    (1, ()), (True, [0]), (None, None), (9, (0,) * 6), (2, range(2)),
)] + [(thing, BadRule, "step") for thing in (
    (1, (0, 1)), (6, (0, 1)), (0, (0,)), (-2, (0,)), (True, (0, 1)), ("2", (0, 1)), (2.0, (0, 1)), (None, (0,)), ((2,), (0,)),
    (2, (21,)), (2, (-1,)), (2, (0, True)), (2, (False, 1)), (2, (0, "1")), (2, (0, 1.0)), (2, (None,)), (2, ((0,),)),
    (2, ([0],)), (2, (0, 1, 2, 3, 10 ** 999)), (10 ** 999, (0,)), (6, (1, 1)), (2, (21, 21)), (2, (1, 1, -1)), (2, (True, True)),
    (2, (1, True)), (2, (0, False)), (True, (1, 1)), (2, ([], [])),
)] + [(thing, BadRule, "same") for thing in (
    (2, (0, 0)), (3, (1, 2, 1)), (5, (20, 4, 3, 20)), (4, (7, 7, 7, 7, 7)),
)]
BAD_KINDS = [(thing, BadKind, "form") for thing in (
    True, None, 2, "half", "parts", b"half", ["half"], ["parts", 2], {"half": 1}, {"half"}, (), (2,), (2, "parts"), (None,),
    ("Half",), ("half ",), ("",), ("line", 2), ("tree",), (b"half",), (("half",),), (["half"],), (True, 2), ("part", 2),
)] + [(thing, BadKind, "number") for thing in (
    ("half", 2), ("half", None), ("half", ()), ("half", "half"), ("parts",), ("best",), ("heap",), ("parts", 1), ("parts", 9),
    ("best", 1), ("best", 9), ("heap", 1), ("heap", 9), ("heap", 0), ("heap", -2), ("parts", True), ("best", "2"),
    ("heap", 2.0), ("parts", None), ("parts", (2,)), ("parts", [2]), ("parts", 2, 2), ("heap", 2, None), ("best", 10 ** 999),
)]

# None of these is a LOT of any number of people up to 10 ** 30.
NO_LOTS = [
    True, False, "1", "", b"", None, [], [1], {}, {1}, {1: 2}, 0, 1, -1, range(1, 2), 1.0, (0,), (-1,), (0, 1), (FAR,), (1, FAR),
    (10 ** 999,), (True,), (True, 2), (1, True), ("1",), (1, "2"), (None,), (1, None), ([1],), ((1,),), (1.0,), (1, 2.0), (1, 1),
    (2, 1), (1, 3, 2), (1, 2, 2), (3, 2, 1), (1, 2, 3, 4), (4, 3, 2, 1), ((),),
]
BAD_LOTS = [(thing, OutOfPlace, None) for thing in NO_LOTS]
BAD_MISSING = [(thing, OutOfPlace, None) for thing in NO_NUMBERS + [4, 5, FAR]]

BAD = {
    "rule": BAD_RULES, "absent": BAD_ABSENCES, "person": BAD_PERSONS, "people": BAD_PEOPLE, "away": BAD_AWAYS,
    "scaled": BAD_SCALED, "kind": BAD_KINDS, "count": BAD_PERSONS, "lot": BAD_LOTS, "missing": BAD_MISSING,
}
GOOD = {
    "rule": (1, 2), "absent": (3,), "person": 5, "people": 6, "away": 1, "scaled": (2, (0, 1)), "kind": ("parts", 2),
    "count": 7, "lot": (2, 4), "missing": 2,
}


def refuse(case, call, error, part):
    """The call raises just that error, with that part, if it has one."""
    with case.assertRaises(error) as held:
        call()
    case.assertIs(type(held.exception), error)
    if part is not None:
        case.assertEqual(held.exception.part, part)


def refuse_each(case, function, names, good=None, bad=None):
    """Each argument in turn is replaced by what is none; of two wrong ones the first one counts."""
    given = dict(GOOD, **(good or {}))
    wrongs = dict(BAD, **(bad or {}))
    right = [given[name] for name in names]
    case.assertEqual(function(*right), function(**dict(zip(names, right))))
    for at, name in enumerate(names):
        for thing, error, part in wrongs.get(name, []):
            with case.subTest(function=function.__name__, name=name, thing=repr(thing)[:60]):
                wrong = right[:at] + [thing] + right[at + 1:]
                refuse(case, lambda: function(*wrong), error, part)
                refuse(case, lambda: function(**dict(zip(names, wrong))), error, part)
                for behind in range(at + 1, len(names)):
                    for other in (None, [], wrongs.get(names[behind], [(True,)])[0][0]):
                        both = wrong[:behind] + [other] + wrong[behind + 1:]
                        refuse(case, lambda: function(*both), error, part)
                        turned = dict(reversed(list(zip(names, both))))
                        refuse(case, lambda: function(**turned), error, part)
