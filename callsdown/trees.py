"""Trees that go on tick by tick, and back."""

from callsdown.checks import is_integer, is_number, need_one_of
from callsdown.errors import Nothing, OutOfPlace
from callsdown.rounds import GO, MISS, THERE, Round, played_again
from callsdown.shapes import need_kind

MOST_PEOPLE = 1000
MOST_TICKS = 5000
# None of these can be called.
NO_DEEDS = (
    "NoneType", "bool", "int", "float", "complex", "str", "bytes", "bytearray",
    "list", "tuple", "dict", "set", "frozenset", "range", "object",
)


class Trial:
    """For one with statement over a tree: behind its block the tree is as it was."""

    def __init__(self, tree):
        self._tree = tree
        self._kept = None

    def __enter__(self):
        tree = self._tree
        # The block gets a ROUND of its own, so that the one that is kept stays as it is.
        self._kept = tree._state
        tree._state = self._kept.fork()
        return tree

    def __exit__(self, kind, value, trace):
        tree = self._tree
        tree._state = self._kept


class Tree:
    """A ROUND."""

    def __init__(self, kind, people):
        need_kind(kind)
        if not is_number(people, 1, MOST_PEOPLE):
            raise OutOfPlace("people is no integer from 1 to 1,000")
        self._state = Round(kind, people)

    def __call__(self, ticks=1):
        """Goes on by so many ticks: the ascending tuple of those who were told in them."""
        if not is_number(ticks, 0, MOST_TICKS):
            raise OutOfPlace("ticks is no integer from 0 to 5,000")
        return self._state.play((GO, ticks))

    def miss(self, person):
        """This one is MISSING."""
        self._need_uncalled(person)
        if person in self._state.gone:
            raise Nothing("the person is MISSING already")
        self._state.play((MISS, person))

    def there(self, person):
        """This one is not MISSING."""
        self._need_uncalled(person)
        if person not in self._state.gone:
            raise Nothing("the person is not MISSING")
        self._state.play((THERE, person))

    @property
    def kind(self):
        """The KIND."""
        return self._state.shape

    @property
    def people(self):
        """How many people there are."""
        return self._state.size

    @property
    def tick(self):
        """How many ticks have gone by."""
        return self._state.ticks

    @property
    def told(self):
        """The ascending tuple of all who were told."""
        return tuple(sorted(list(self._state.heard)))

    @property
    def missing(self):
        """The ascending tuple of all who are MISSING."""
        return tuple(sorted(list(self._state.gone)))

    @property
    def is_done(self):
        """Whether all calls are done."""
        return len(self._state.due) == 0

    def __len__(self):
        return len(self._state.heard)

    def __contains__(self, value):
        return is_number(value, 0, self._state.size - 1) and value in self._state.heard

    def back(self, *, many=1):
        """Takes the last deeds back."""
        if not is_integer(many) or many < 1:
            raise OutOfPlace("many is no integer from 1 on")
        deeds = self._state.deeds
        if many > len(deeds):
            raise Nothing("there are not so many deeds")
        self._state = played_again(self._state.shape, self._state.size, deeds[:len(deeds) - many])

    def copy(self):
        """A Tree that stands likewise and goes on by itself."""
        other = Tree(self._state.shape, self._state.size)
        other._state = self._state.fork()
        return other

    def trial(self):
        """An object for one with statement, behind whose block the tree is as it was."""
        return Trial(self)

    def __eq__(self, other):
        return (isinstance(other, Tree) and self._state.shape == other._state.shape
                and self._state.size == other._state.size and self._state.deeds == other._state.deeds)

    def _need_uncalled(self, person):
        """OutOfPlace of what is none of the people, Nothing of who was called already, or is 0."""
        need_one_of(self._state.size, person)
        if person in self._state.reached:
            raise Nothing("the person was called already, or is 0")


def under(tree, deed):
    """What the deed returns, called with the tree in a trial of it."""
    if not isinstance(tree, Tree):
        raise OutOfPlace("tree is no Tree")
    if type(deed).__name__ in NO_DEEDS:
        raise OutOfPlace("deed is nothing to call")
    with tree.trial() as held:
        return deed(held)
