"""The document's words followed plainly: what the package's answers are compared with."""

from itertools import combinations, permutations

NEVER = 10 ** 40
# Ticks come again long before so many people behind a missing one.
ENOUGH = 200


def all_rules(greatest=6):
    """All LINE RULES with steps up to the greatest one."""
    steps = range(1, greatest + 1)
    return [rule for many in range(1, 5) for rule in permutations(steps, many)]


def all_absences(greatest, most=4):
    """All ABSENCES of at most so many people from 1 to the greatest one."""
    people = range(1, greatest + 1)
    return [absent for many in range(most + 1) for absent in combinations(people, many)]


def told_ticks(rule, absent, people):
    """A dict of the ticks at which those below people are told by a LINE RULE."""
    return told_by_calls(lambda person: [person + step for step in rule], absent, people)


def told_scaled(scaled, people):
    """A dict of the ticks at which those below people are told by a SCALED RULE."""
    scale, adds = scaled
    return told_by_calls(lambda person: [scale * person + add for add in adds], (), people)


def told_by_calls(called, absent, people):
    """A dict of the ticks at which those below people are told: the calls are made, tick by tick."""
    told = {}
    calls = {0: [0]}
    tick = 0
    while calls:
        for person in calls.pop(tick, []):
            if person < people and person not in absent and person not in told:
                told[person] = tick
                for place, other in enumerate(called(person), start=1):
                    if other != person:
                        calls.setdefault(tick + place, []).append(other)
        tick += 1
    return told


def all_adds(scale, many, greatest=20):
    """All SCALED RULES of that D with so many ADDS up to the greatest one, in ascending order."""
    return [(scale, adds) for adds in combinations(range(greatest + 1), many)]


def back(scaled):
    """The BACK of a SCALED RULE."""
    return max(scaled[1]) // (scaled[0] - 1)


class FarTicks:
    """The ticks of one rule for people of any number, by powers of the matrix of one person's move."""

    def __init__(self, rule):
        self.rule = rule
        self.reach = max(rule)
        move = [[NEVER] * self.reach for _ in range(self.reach)]
        for at in range(self.reach - 1):
            move[at][at + 1] = 0
        for place, step in enumerate(rule):
            move[-1][self.reach - step] = place + 1
        self.powers = [move]

    def power(self, at):
        while len(self.powers) <= at:
            half = self.powers[-1]
            columns = list(zip(*half))
            self.powers.append([[min(map(int.__add__, row, column)) for column in columns] for row in half])
        return self.powers[at]

    def moved(self, window, count):
        at = 0
        while count:
            if count & 1:
                window = [min(map(int.__add__, row, window)) for row in self.power(at)]
            count >>= 1
            at += 1
        return window

    def window(self, absent, people):
        """The ticks of the last people below people, NEVER or more where there is none."""
        window = [NEVER] * (self.reach - 1) + [0]
        at = 1
        for gone in absent:
            if gone < people:
                window = self.moved(window, gone - at)[1:] + [NEVER]
                at = gone + 1
        return self.moved(window, people - at)

    def tick(self, absent, person):
        if person == 0:
            return 0
        if person in absent:
            return None
        window = self.window(absent, person)
        least = min(window[-step] + place + 1 for place, step in enumerate(self.rule))
        return least if least < NEVER else None

    def callers(self, absent, person):
        steps = [step for step in self.rule if step <= person]
        return tuple(sorted(person - step for step in steps if self.tick(absent, person - step) is not None))

    def last(self, absent, people):
        """The greatest tick: it is behind 0, close behind a missing one, or close ahead of one or of the end."""
        edges = [0, people] + [gone for gone in absent if gone < people]
        last = 0
        for edge in edges:
            start = max(1, edge - ENOUGH)
            end = min(people, edge + ENOUGH)
            window = self.window(absent, start)
            for person in range(start, end):
                window = self.moved(window, 1)
                if person in absent:
                    window[-1] = NEVER
                if window[-1] < NEVER:
                    last = max(last, window[-1])
        return last
