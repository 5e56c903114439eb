import unittest

from callsdown.errors import BadKind, BadPaper, BadRule, BadText, Nothing, OutOfPlace, TooGreat

PARENTS = {
    BadRule: ValueError, BadPaper: ValueError, BadText: ValueError, OutOfPlace: ValueError, BadKind: ValueError,
    TooGreat: OverflowError, Nothing: LookupError,
}
FIELDS = {BadRule: "part", BadPaper: "part", BadText: "line", BadKind: "part", TooGreat: "most"}
TEXTS = (OutOfPlace, Nothing)
THINGS = (0, 1, -5, 10 ** 999, 10 ** 6000, None, True, (), (1, ("a", None)), "", "form", "a b", [1, 2], {"a": 1}, b"x")


class Classes(unittest.TestCase):
    def test_each_is_straight_under_its_class(self):
        for made, parent in PARENTS.items():
            self.assertEqual(made.__bases__, (parent,))
            self.assertEqual(made.__module__, "callsdown.errors")

    def test_none_is_under_another(self):
        for made in PARENTS:
            for other in PARENTS:
                self.assertEqual(issubclass(made, other), made is other)


class Fields(unittest.TestCase):
    def test_the_argument_is_a_field_of_its_name(self):
        for made, field in FIELDS.items():
            for thing in THINGS:
                self.assertIs(getattr(made(thing), field), thing)
                self.assertIs(getattr(made(**{field: thing}), field), thing)

    def test_texts_may_be_any_things(self):
        for made in TEXTS:
            for thing in THINGS:
                self.assertIsInstance(made(thing), made)
                self.assertIsInstance(made(text=thing), made)

    def test_each_takes_one_argument(self):
        for made in PARENTS:
            self.assertRaises(TypeError, made)
            self.assertRaises(TypeError, made, 1, 2)


class Raised(unittest.TestCase):
    def test_each_is_caught_as_itself_and_as_its_parent(self):
        for made, parent in PARENTS.items():
            for caught in (made, parent):
                for thing in THINGS:
                    with self.assertRaises(caught) as held:
                        raise made(thing)
                    self.assertIs(type(held.exception), made)
                    if made in FIELDS:
                        self.assertIs(getattr(held.exception, FIELDS[made]), thing)

    def test_none_is_caught_as_another(self):
        for made in PARENTS:
            for other in PARENTS:
                if made is not other:
                    self.assertEqual(self.caught_by(made, other), "as itself")

    def caught_by(self, made, other):
        try:
            raise made("x")
        except other:
            return "as the other"
        except made:
            return "as itself"


if __name__ == "__main__":
    unittest.main()
