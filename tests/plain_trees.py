"""Trees that hand on, by the document's words: everybody is handed lists, and calls are made tick by tick."""

from itertools import combinations

KINDS = [("half",)] + [(word, number) for word in ("parts", "best", "heap") for number in range(2, 9)]


def most(calls, ticks):
    """MOST by its own sum, each one from those ahead."""
    mosts = [1]
    while len(mosts) <= ticks:
        at = len(mosts)
        mosts.append(1 + sum(mosts[at - less] for less in range(1, min(calls or at, at) + 1)))
    return mosts[ticks]


def heap_parts(degree, person, handed):
    """The PARTS of the person of a heap: those handed by whom below the person they are, the first one ahead."""
    parts = {first: [] for first in range(degree * person + 1, degree * person + degree + 1) if first in handed}
    for one in handed:
        above = one
        while above not in parts:
            above = (above - 1) // degree
        parts[above].append(one)
    return list(parts.values())


def parted(kind, person, handed):
    """The PARTS of a person who is handed this ascending list, each as a list."""
    word = kind[0]
    if word == "heap":
        return heap_parts(kind[1], person, handed)
    rest = list(handed)
    count = len(rest)
    parts = []
    if word == "parts":
        many = min(kind[1], count)
        for at in range(many):
            size = -(-len(rest) // (many - at))
            parts.append(rest[:size])
            rest = rest[size:]
    if word == "half":
        while rest:
            size = (len(rest) + 1) // 2
            parts.append(rest[:size])
            rest = rest[size:]
    if word == "best":
        ticks = next(ticks for ticks in range(count + 1) if most(kind[1], ticks) >= count + 1)
        at = 1
        while rest:
            size = most(kind[1], ticks - at)
            parts.append(rest[:size])
            rest = rest[size:]
            at += 1
    return parts


class Play:
    """A tree that goes on tick by tick; who is missing may be told anew between the ticks."""

    def __init__(self, kind, people, lot=()):
        self.kind = kind
        self.missing = set(lot)
        self.tick = 0
        self.told = {0: 0}
        self.callers = {}
        self.calls = {0: 0}
        self.places = {}
        self.parts = {0: parted(kind, 0, list(range(1, people)))}

    def step(self):
        """One tick more: the set of those who were told in it."""
        self.tick += 1
        fresh = {}
        for caller in list(self.parts):
            if not self.parts[caller]:
                continue
            first, *rest = self.parts[caller].pop(0)
            self.calls[caller] += 1
            self.callers[first] = caller
            self.places[first] = self.calls[caller]
            if first in self.missing:
                if self.kind[0] == "heap":
                    self.parts[caller][:0] = heap_parts(self.kind[1], first, rest)
                elif rest:
                    self.parts[caller].insert(0, rest)
            else:
                fresh[first] = rest
        for person, rest in fresh.items():
            self.told[person] = self.tick
            self.calls[person] = 0
            self.parts[person] = parted(self.kind, person, rest)
        return set(fresh)

    def is_done(self):
        return not any(self.parts.values())

    def to_the_end(self):
        while not self.is_done():
            self.step()
        return self

    def ready(self):
        """The tick at which each one is READY: calling back is played tick by tick, too."""
        found = {}
        tick = 0
        while len(found) < len(self.told):
            called_back = {person for person, at in found.items() if at < tick}
            for person, at in self.told.items():
                told_by_them = {one for one in self.told if self.callers.get(one) == person}
                if person not in found and at + self.calls[person] <= tick and told_by_them <= called_back:
                    found[person] = tick
            tick += 1
        return found


def played(kind, people, lot=()):
    """The tree when all is done."""
    return Play(kind, people, lot).to_the_end()


def all_lots(people, most_missing):
    """All LOTS of at most so many people."""
    return [lot for many in range(most_missing + 1) for lot in combinations(range(1, people), many)]


def telling_lots(kind, people, draw):
    """LOTS of up to three: side by side, callers of each other, the last ones, the first ones of PARTS, and others."""
    whole = played(kind, people)
    below = [one for one in range(1, people) if whole.callers[one] != 0]
    lots = [(), (1,), (people - 1,), (people - 2, people - 1), (1, 2), (1, 2, 3), (1, people - 1)]
    lots += [(first,) for first in list(range(1, people)) if whole.callers[first] == 0]
    lots += [tuple(sorted({one, whole.callers[one]})) for one in draw.sample(below, min(4, len(below)))]
    for one in draw.sample(below, min(4, len(below))):
        lots.append(tuple(sorted({one, whole.callers[one], whole.callers[whole.callers[one]]} - {0})))
    # Whose PART is themselves alone.
    alone = [one for one in range(1, people) if whole.calls[one] == 0]
    lots += [(one,) for one in draw.sample(alone, min(3, len(alone)))]
    for many in (1, 2, 3):
        if many < people:
            lots += [tuple(sorted(draw.sample(range(1, people), many))) for _ in range(6)]
            lots += [tuple(range(at, at + many)) for at in [draw.randrange(1, people - many + 1) for _ in range(3)]]
    right = [lot for lot in lots if all(0 < one < people for one in lot) and list(lot) == sorted(set(lot))]
    return sorted(set(right))
