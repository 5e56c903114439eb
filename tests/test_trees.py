import random
import unittest

from callsdown.errors import BadKind, BadRule, Nothing, OutOfPlace
from callsdown.ticks import last_tick, told_at
from callsdown.trees import Tree, under
from tests.plain_trees import KINDS, Play
from tests.wrong import BAD_KINDS, BAD_PEOPLE, FAR, NO_NUMBERS, refuse

NO_MEMBERS = (True, False, "1", "a", b"1", None, [], [1], (1,), {}, {1: 2}, {1}, 1.0, 0.5, -1, -FAR, FAR, object(), Tree, range(2))


class PlainTree:
    """A tree that is played from the start for each question."""

    def __init__(self, kind, people):
        self.kind, self.people, self.deeds = kind, people, []

    def play(self, deeds=None):
        play = Play(self.kind, self.people)
        for word, number in self.deeds if deeds is None else deeds:
            if word == "go":
                for _ in range(number):
                    play.step()
            if word == "miss":
                play.missing.add(number)
            if word == "there":
                play.missing.remove(number)
        return play

    def go(self, ticks):
        ahead = self.play()
        self.deeds.append(("go", ticks))
        return tuple(sorted(set(self.play().told) - set(ahead.told)))

    def may(self, word, person):
        play = self.play()
        return person != 0 and person not in play.callers and (person in play.missing) == (word == "there")


def shorter(plain, many):
    """The same tree ahead of its last deeds."""
    short = PlainTree(plain.kind, plain.people)
    short.deeds = plain.deeds[:len(plain.deeds) - many]
    return short


class Case(unittest.TestCase):
    def same(self, tree, plain):
        play = plain.play()
        told = tuple(sorted(play.told))
        self.assertIs(type(tree.told), tuple)
        self.assertEqual((tree.kind, tree.people, tree.tick), (plain.kind, plain.people, play.tick), plain.deeds)
        self.assertEqual((tree.told, tree.missing), (told, tuple(sorted(play.missing))), plain.deeds)
        self.assertIs(tree.is_done, play.is_done(), plain.deeds)
        self.assertEqual(len(tree), len(told))
        self.assertEqual([person for person in range(-2, plain.people + 2) if person in tree], list(told))

    def deed(self, tree, plain, draw):
        """One deed, that may be refused, of both."""
        word = draw.choice(("go", "go", "miss", "miss", "there", "back"))
        person = draw.randrange(plain.people)
        if word == "go":
            ticks = draw.choice((0, 1, 1, 1, 2, 3, 30))
            told = tree() if ticks == 1 and draw.random() < 0.5 else tree(ticks)
            self.assertEqual(told, plain.go(ticks), plain.deeds)
        elif word == "back":
            many = draw.choice((1, 1, 1, 2, 3, 9))
            if many > len(plain.deeds):
                refuse(self, lambda: tree.back(many=many), Nothing, None)
            else:
                self.assertIsNone(tree.back() if many == 1 and draw.random() < 0.5 else tree.back(many=many))
                del plain.deeds[-many:]
        else:
            if word == "there" and draw.random() < 0.7:
                person = draw.choice(sorted(plain.play().missing) or [person])
            call = tree.miss if word == "miss" else tree.there
            if plain.may(word, person):
                self.assertIsNone(call(person))
                plain.deeds.append((word, person))
            else:
                refuse(self, lambda: call(person=person), Nothing, None)


class Deeds(Case):
    def test_rows_of_deeds_against_a_plain_play(self):
        draw = random.Random(239)
        for kind in KINDS:
            for people in [1, 2, 3] + draw.sample(range(4, 34), 4):
                tree, plain = Tree(kind, people), PlainTree(kind, people)
                self.same(tree, plain)
                for _ in range(25):
                    self.deed(tree, plain, draw)
                    self.same(tree, plain)

    def test_with_nobody_taken_for_missing_it_ends_at_the_last_tick(self):
        for kind in KINDS:
            for people in (1, 2, 7, 60, 999, 1000):
                tree = Tree(kind, people)
                while not tree.is_done:
                    for person in tree():
                        self.assertEqual(told_at(kind, people, (), person), tree.tick)
                self.assertEqual(tree.tick, last_tick(kind, people, ()))
                self.assertEqual(tree.told, tuple(range(people)))
                self.assertEqual(Tree(kind, people)(5000), tuple(range(1, people)))

    def test_it_is_as_with_a_lot_if_they_are_missing_from_the_start(self):
        draw = random.Random(241)
        for kind in KINDS:
            for people in (10, 100, 1000):
                lot = tuple(sorted(draw.sample(range(1, people), 3)))
                tree = Tree(kind, people)
                for person in lot[::-1]:
                    tree.miss(person)
                for ticks in range(1, 100):
                    for person in tree():
                        self.assertEqual(told_at(kind, people, lot, person), ticks)
                tree(5000)
                self.assertEqual(tree.told, tuple(person for person in range(people) if person not in lot))
                self.assertEqual(tree.missing, lot)
                self.assertIs(tree.is_done, True)
                self.assertEqual(tree.tick, 5099)

    def test_all_may_be_missing(self):
        for kind in KINDS:
            tree = Tree(kind, 30)
            for person in range(1, 30):
                tree.miss(person)
            self.assertEqual(tree(28), ())
            self.assertIs(tree.is_done, False)
            self.assertEqual(tree(), ())
            self.assertIs(tree.is_done, True)
            self.assertEqual((len(tree), tree.told, tree.tick, tree.missing), (1, (0,), 29, tuple(range(1, 30))))

    def test_known_ones(self):
        tree = Tree(("parts", 2), 7)
        self.assertEqual((tree.kind, tree.people, tree.tick, tree.told, tree.missing), (("parts", 2), 7, 0, (0,), ()))
        self.assertEqual(tree(), (1,))
        self.assertIsNone(tree.miss(2))
        self.assertEqual(tree(ticks=1), (4,))
        self.assertEqual(tree(0), ())
        self.assertEqual(tree(2), (3, 5, 6))
        self.assertEqual((tree.told, tree.missing, tree.tick, tree.is_done), ((0, 1, 3, 4, 5, 6), (2,), 4, True))
        refuse(self, lambda: tree.there(2), Nothing, None)
        self.assertEqual(tree(5), ())
        self.assertEqual(tree.tick, 9)
        tree.back(many=4)
        self.assertEqual((tree.told, tree.missing, tree.tick, tree.is_done), ((0, 1), (2,), 1, False))
        self.assertIsNone(tree.there(2))
        self.assertEqual(tree(3), (2, 3, 4, 5, 6))

    def test_one_person_alone(self):
        for kind in KINDS:
            tree = Tree(kind, 1)
            self.assertIs(tree.is_done, True)
            self.assertEqual(tree(5000), ())
            self.assertEqual((tree.tick, tree.told, len(tree)), (5000, (0,), 1))
            refuse(self, lambda: tree.miss(0), Nothing, None)
            refuse(self, lambda: tree.miss(1), OutOfPlace, None)


class Missing(Case):
    def test_who_was_called_is_neither_taken_for_missing_nor_for_there(self):
        for kind in KINDS:
            tree = Tree(kind, 9)
            tree.miss(1)
            refuse(self, lambda: tree.miss(1), Nothing, None)
            refuse(self, lambda: tree.there(2), Nothing, None)
            for call in (tree.miss, tree.there):
                refuse(self, lambda: call(0), Nothing, None)
            tree(2)
            told = tree.told[-1]
            self.assertNotEqual(told, 0)
            for person in (1, told, 0):
                for call in (tree.miss, tree.there):
                    refuse(self, lambda: call(person), Nothing, None)
            self.assertEqual(tree.missing, (1,))

    def test_there_again_and_missing_again(self):
        tree = Tree(("half",), 9)
        tree.miss(5)
        tree.there(5)
        tree.miss(person=5)
        tree.there(person=5)
        self.assertEqual(tree.missing, ())
        self.assertEqual(tree(9), tuple(range(1, 9)))
        tree.back(many=2)
        self.assertEqual(tree.missing, (5,))
        self.assertEqual(tree(9), (1, 2, 3, 4, 6, 7, 8))

    def test_a_refused_deed_is_none(self):
        tree = Tree(("heap", 2), 9)
        tree.miss(4)
        tree(1)
        for call in (
            lambda: tree.miss(4), lambda: tree.miss(1), lambda: tree.miss(0), lambda: tree.miss(9), lambda: tree.there(5),
            lambda: tree.there("4"), lambda: tree(-1), lambda: tree(5001), lambda: tree.back(many=3), lambda: tree.back(many=0),
        ):
            ahead = tree.copy()
            self.assertRaises((Nothing, OutOfPlace), call)
            self.assertTrue(tree == ahead)
        tree.back(many=2)
        self.assertTrue(tree == Tree(("heap", 2), 9))


class Back(Case):
    def test_many_deeds_back_and_more_than_there_are(self):
        draw = random.Random(251)
        for kind in draw.sample(KINDS, 8):
            tree, plain = Tree(kind, 20), PlainTree(kind, 20)
            stands = [tree.copy()]
            for _ in range(30):
                before = len(plain.deeds)
                self.deed(tree, plain, draw)
                if len(plain.deeds) > before:
                    stands.append(tree.copy())
                else:
                    del stands[len(plain.deeds) + 1:]
            for many in range(len(plain.deeds) + 1, len(plain.deeds) + 4):
                refuse(self, lambda: tree.back(many=many), Nothing, None)
            for many in range(1, len(plain.deeds) + 1):
                again = tree.copy()
                again.back(many=many)
                self.assertTrue(again == stands[-1 - many])
                self.same(again, shorter(plain, many))

    def test_calls_without_a_tick_are_deeds_too(self):
        tree = Tree(("half",), 5)
        tree(0)
        tree(2)
        tree(0)
        tree.back()
        self.assertEqual(tree.tick, 2)
        tree.back()
        self.assertEqual(tree.tick, 0)
        tree.back()
        refuse(self, lambda: tree.back(), Nothing, None)

    def test_wrong_numbers(self):
        tree = Tree(("half",), 5)
        tree(1)
        for many in [thing for thing in NO_MEMBERS if thing != FAR] + [0]:
            refuse(self, lambda: tree.back(many=many), OutOfPlace, None)
        for many in (2, FAR, 10 ** 999):
            refuse(self, lambda: tree.back(many=many), Nothing, None)
        self.assertRaises(TypeError, tree.back, 1)
        self.assertEqual(tree.tick, 1)


class Likes(Case):
    def test_in_for_any_value(self):
        tree = Tree(("half",), 5)
        tree(1)
        for value in NO_MEMBERS + ([[]], {1: [2]}, tree, 2, 3, 4, 5, 10 ** 999, float("nan")):
            self.assertIs(value in tree, False, repr(value))
        self.assertIs(0 in tree, True)
        self.assertIs(1 in tree, True)

    def test_copies_go_on_by_themselves(self):
        draw = random.Random(257)
        for kind in KINDS:
            tree, plain = Tree(kind, 20), PlainTree(kind, 20)
            for _ in range(8):
                self.deed(tree, plain, draw)
            other, twin = tree.copy(), shorter(plain, 0)
            self.assertIsInstance(other, Tree)
            self.assertTrue(tree == other)
            for _ in range(8):
                self.deed(*draw.choice(((tree, plain), (other, twin))), draw)
                self.same(tree, plain)
                self.same(other, twin)
                self.assertIs(tree == other, plain.deeds == twin.deeds)

    def test_equal_trees(self):
        def tree(kind, people, *deeds):
            made = Tree(kind, people)
            for deed in deeds:
                deed(made)
            return made

        def go(ticks):
            return lambda one: one(ticks)

        def miss(person):
            return lambda one: one.miss(person)

        def there(person):
            return lambda one: one.there(person)

        made = [
            tree(("half",), 9), tree(("half",), 8), tree(("parts", 2), 9), tree(("heap", 2), 9), tree(("parts", 3), 9),
            tree(("half",), 9, go(0)), tree(("half",), 9, go(1)), tree(("half",), 9, go(2)), tree(("half",), 9, go(1), go(1)),
            tree(("half",), 9, go(99)), tree(("half",), 9, go(98)), tree(("half",), 9, miss(3)), tree(("half",), 9, miss(4)),
            tree(("half",), 9, miss(3), there(3)), tree(("half",), 9, miss(3), miss(4)), tree(("half",), 9, miss(4), miss(3)),
            tree(("half",), 9, miss(3), go(1)), tree(("half",), 9, go(1), miss(3)), tree(("half",), 1), tree(("half",), 1, go(1)),
        ]
        for at, one in enumerate(made):
            for behind, other in enumerate(made):
                self.assertIs(one == other, at == behind, (at, behind))
                self.assertIs(one != other, at != behind)
            self.assertIs(one == one.copy(), True)
            for thing in NO_MEMBERS + (("half",), 9, one.told):
                self.assertIs(one == thing, False)
                self.assertIs(one != thing, True)
        again = tree(("half",), 9, go(1), go(1))
        again.back()
        self.assertTrue(again == made[6])

    def test_properties_are_not_assigned(self):
        tree = Tree(("half",), 9)
        for name in ("kind", "people", "tick", "told", "missing", "is_done"):
            self.assertRaises(AttributeError, setattr, tree, name, 1)


class Oops(Exception):
    pass


class Trials(Case):
    def test_the_tree_is_as_it_was_however_the_block_ends(self):
        draw = random.Random(263)
        for kind in KINDS:
            tree, plain = Tree(kind, 20), PlainTree(kind, 20)
            for _ in range(6):
                self.deed(tree, plain, draw)
                ahead = tree.copy()
                for error in (None, Oops, Nothing, KeyboardInterrupt):
                    try:
                        with tree.trial() as held:
                            self.assertIs(held, tree)
                            self.random_deeds(tree, plain, draw)
                            if error:
                                raise error("x")
                    except (Oops, Nothing, KeyboardInterrupt) as raised:
                        self.assertIs(type(raised), error)
                    else:
                        self.assertIsNone(error)
                    self.same(tree, plain)
                    self.assertTrue(tree == ahead)

    def random_deeds(self, tree, plain, draw):
        inner = shorter(plain, 0)
        for _ in range(4):
            self.deed(tree, inner, draw)
            self.same(tree, inner)

    def test_trials_within_trials(self):
        tree = Tree(("half",), 20)
        tree(1)
        start = tree.copy()
        with tree.trial():
            tree.miss(9)
            tree(1)
            middle = tree.copy()
            try:
                with tree.trial() as held:
                    tree.back(many=3)
                    self.assertTrue(tree == Tree(("half",), 20))
                    with held.trial():
                        tree.miss(19)
                        self.assertNotIn(19, tree(5))
                    self.assertTrue(tree == Tree(("half",), 20))
                    tree(7)
                    raise Oops
            except Oops:
                pass
            self.assertTrue(tree == middle)
            tree(1)
        self.assertTrue(tree == start)
        self.assertEqual(tree.missing, ())
        tree.back()
        self.assertTrue(tree == Tree(("half",), 20))

    def test_what_comes_out_of_the_block(self):
        tree = Tree(("half",), 8)
        with tree.trial():
            copy = tree.copy()
            told = tree(9)
        self.assertEqual(told, tuple(range(1, 8)))
        self.assertEqual(copy(1), (1,))
        self.assertEqual(tree.told, (0,))
        for _ in range(2):
            for one in tree.trial(), copy.trial():
                with one as held:
                    held(3)
        self.assertEqual((tree.tick, copy.tick), (0, 1))

    def test_under(self):
        tree = Tree(("half",), 8)
        tree(1)
        ahead = tree.copy()
        self.assertEqual(under(tree, lambda one: one(9)), tuple(range(2, 8)))
        self.assertTrue(tree == ahead)
        self.assertIs(under(tree=tree, deed=lambda one: one), tree)
        self.assertIsNone(under(tree, lambda one: one.back()))
        self.assertEqual(under(tree, lambda one: under(one, lambda two: two(1)) + one(1)), (2, 5, 2, 5))
        self.assertEqual(under(tree, len), 2)
        self.assertEqual(under(tree, Tree.copy), ahead)
        self.assertTrue(tree == ahead)
        for error in (Oops, Nothing, OutOfPlace, BadRule):
            def deed(one):
                one(3)
                raise error("x")
            refuse(self, lambda: under(tree, deed), error, None)
            self.assertTrue(tree == ahead)
        refuse(self, lambda: under(tree, lambda one: one(-1)), OutOfPlace, None)
        refuse(self, lambda: under(tree, lambda one: one.back(many=2)), Nothing, None)

    def test_under_of_what_is_no_tree_or_no_deed(self):
        tree = Tree(("half",), 8)
        for thing in NO_MEMBERS:
            called = []
            refuse(self, lambda: under(thing, called.append), OutOfPlace, None)
            refuse(self, lambda: under(thing, None), OutOfPlace, None)
            self.assertEqual(called, [])
        for thing in (
            None, True, 1, "len", b"", bytearray(), [], (), {}, {1}, frozenset(), 1.5, 1j, range(2), object(),
        ):
            refuse(self, lambda: under(tree, thing), OutOfPlace, None)
            refuse(self, lambda: under(deed=thing, tree=tree), OutOfPlace, None)


class Arguments(unittest.TestCase):
    def test_wrong_kinds_and_people(self):
        for thing, error, part in BAD_KINDS:
            refuse(self, lambda: Tree(thing, 9), error, part)
            refuse(self, lambda: Tree(people=None, kind=thing), error, part)
        for thing, error, part in BAD_PEOPLE + [(1001, OutOfPlace, None), (FAR, OutOfPlace, None)]:
            refuse(self, lambda: Tree(("half",), thing), error, part)
            refuse(self, lambda: Tree(people=thing, kind=("heap", 3)), error, part)
        refuse(self, lambda: Tree(("half", 3), 0), BadKind, "number")
        self.assertEqual(Tree(people=1000, kind=("best", 3)).people, 1000)

    def test_wrong_ticks_and_people_of_a_tree(self):
        tree = Tree(("half",), 9)
        for ticks in [thing for thing in NO_NUMBERS] + [5001, -1, "1"]:
            refuse(self, lambda: tree(ticks), OutOfPlace, None)
            refuse(self, lambda: tree(ticks=ticks), OutOfPlace, None)
        for person in NO_MEMBERS + (9, 10):
            for call in (tree.miss, tree.there):
                refuse(self, lambda: call(person), OutOfPlace, None)
                refuse(self, lambda: call(person=person), OutOfPlace, None)
        self.assertTrue(tree == Tree(("half",), 9))
        self.assertEqual(len(tree(5000)), 8)


if __name__ == "__main__":
    unittest.main()
