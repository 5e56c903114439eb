"""Wrong arguments, and a check that a call refuses them, the first one from the left first."""

from callsdown.errors import BadRule, OutOfPlace

FAR = 10 ** 30

BAD_RULES = [(thing, BadRule, "form") for thing in (
    True, None, 1, "12", b"12", [1, 2], {1: 2}, {1, 2}, (), (1, 2, 3, 4, 5), (0, 0, 0, 0, 0), (9,) * 50, range(1, 3),
)] + [(thing, BadRule, "step") for thing in (
    (0,), (7,), (-1,), (True,), (1, True), ("1",), (1, None), (1, 2.0), ((1,),), ([1],), (1, 2, 3, 10 ** 999),
    (7, 7), (1, 1, 0), (True, True), (False, 2), ([], []),
)] + [(thing, BadRule, "same") for thing in (
    (1, 1), (2, 3, 2), (6, 5, 4, 6), (3, 3, 3, 3),
)]

NO_NUMBERS = [True, False, "1", b"1", None, [1], (1,), 1.0, {}, -1, -FAR, FAR + 1, 10 ** 999]
BAD_PERSONS = [(thing, OutOfPlace, None) for thing in NO_NUMBERS]
BAD_PEOPLE = [(thing, OutOfPlace, None) for thing in NO_NUMBERS + [0]]
BAD_AWAYS = [(thing, OutOfPlace, None) for thing in NO_NUMBERS + [5, 6, FAR]]
BAD_ABSENCES = [(thing, OutOfPlace, None) for thing in (
    True, False, "1", "", b"", None, [], [1], {}, {1}, 0, 1, -1, range(1, 3),
    (0,), (-1,), (0, 1), (FAR + 1,), (1, FAR + 1), (True,), (True, 2), (1, True), ("1",), (1, "2"), (None,), (1, None),
    ([1],), ((1,),), (1.0,), (1, 2.5), (1, 1), (2, 1), (1, 3, 2), (1, 2, 2), (FAR, 1), (1, 2, 3, 4, 5), (5, 4, 3, 2, 1),
)]

BAD = {"rule": BAD_RULES, "absent": BAD_ABSENCES, "person": BAD_PERSONS, "people": BAD_PEOPLE, "away": BAD_AWAYS}
GOOD = {"rule": (1, 2), "absent": (3,), "person": 5, "people": 6, "away": 1}


def refuse(case, call, error, part):
    """The call raises just that error, with that part, if it has one."""
    with case.assertRaises(error) as held:
        call()
    case.assertIs(type(held.exception), error)
    if part is not None:
        case.assertEqual(held.exception.part, part)


def refuse_each(case, function, names, good=None):
    """Each argument in turn is replaced by what is none; of two wrong ones the first one counts."""
    given = dict(GOOD, **(good or {}))
    right = [given[name] for name in names]
    case.assertEqual(function(*right), function(**dict(zip(names, right))))
    for at, name in enumerate(names):
        for thing, error, part in BAD.get(name, []):
            with case.subTest(function=function.__name__, name=name, thing=repr(thing)[:60]):
                wrong = right[:at] + [thing] + right[at + 1:]
                refuse(case, lambda: function(*wrong), error, part)
                refuse(case, lambda: function(**dict(zip(names, wrong))), error, part)
                for behind in range(at + 1, len(names)):
                    for other in (None, [], BAD.get(names[behind], [(True,)])[0][0]):
                        both = wrong[:behind] + [other] + wrong[behind + 1:]
                        refuse(case, lambda: function(*both), error, part)
                        turned = dict(reversed(list(zip(names, both))))
                        refuse(case, lambda: function(**turned), error, part)
