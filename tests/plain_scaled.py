"""SCALED RULES to try, and the document's words on them followed plainly."""

import random

from tests.plain import all_adds, back, told_scaled
from tests.wrong import FAR

SCALES = (2, 3, 4, 5)
KNOWN = [
    (2, (0,)), (2, (1,)), (2, (0, 1)), (2, (1, 0)), (2, (1, 2)), (2, (2, 1)), (2, (0, 3)), (2, (3, 0)), (2, (1, 20)),
    (2, (0, 17, 18)), (2, (20, 19, 1, 0)), (2, (0, 1, 3, 6, 10)), (3, (0, 1, 2)), (3, (2, 0, 1)), (3, (1, 2, 3)),
    (3, (0, 1)), (3, (0, 2)), (3, (1, 2, 7)), (3, (0, 1, 2, 6, 14)), (4, (0, 1, 2, 3)), (4, (1, 2, 3, 4)), (4, (0, 2)),
    (4, (3, 2, 1, 0, 17)), (4, (1, 2, 3, 5)), (5, (0, 1, 2, 3, 4)), (5, (5, 3, 4, 1, 2)), (5, (1, 2, 3, 4, 20)), (5, (0, 20)),
]


def some_rules(seed, many):
    """The known SCALED RULES, and so many others of each D, half of which leave all rests by D where they can."""
    draw = random.Random(seed)
    found = list(KNOWN)
    for scale in SCALES:
        for at in range(many):
            adds = draw.sample(range(draw.choice((6, 12, 21))), draw.randrange(1, 6))
            if at % 2:
                adds = [rest + scale * draw.randrange(20 // scale - 1) for rest in range(scale)]
                adds += draw.sample([add for add in range(21) if add not in adds], draw.randrange(6 - scale))
                draw.shuffle(adds)
            found.append((scale, tuple(adds)))
    return found


def full_rules(scale):
    """All FULL rules of that D, in ascending order of ADDS, by all that has to be TOLD."""
    rules = []
    for scaled in (scaled for many in range(1, 6) for scaled in all_adds(scale, many)):
        if len({add % scale for add in scaled[1]}) == scale:
            below = scale * (back(scaled) + 1)
            if len(told_scaled(scaled, below)) == below:
                rules.append(scaled)
    return rules


FULL = {scale: full_rules(scale) for scale in SCALES}
SOME_FULL = [scaled for scale in SCALES for scaled in random.Random(43).sample(FULL[scale], min(12, len(FULL[scale])))]


class FarTold:
    """The ticks of people of any number by those who may call them, each worked out once."""

    def __init__(self, scaled):
        self.scale, self.adds = scaled
        self.ticks = {0: 0}

    def calls(self, person):
        found = []
        for place, add in enumerate(self.adds, start=1):
            caller, rest = divmod(person - add, self.scale)
            if rest == 0 and caller >= 0 and caller != person and self.tick(caller) is not None:
                found.append((self.tick(caller) + place, caller))
        return found

    def tick(self, person):
        if person not in self.ticks:
            self.ticks[person] = min((tick for tick, _ in self.calls(person)), default=None)
        return self.ticks[person]

    def caller(self, person):
        return min(self.calls(person), default=(0, None))[1]
