"""How a ROUND stands: who was told, and which calls are left."""

from callsdown.handing import parts_left, parts_of

GO = "go"
MISS = "miss"
THERE = "there"


class Round:
    """A tree that goes on tick by tick, by deeds that are known to be right."""

    def __init__(self, shape, size):
        self.shape = shape
        self.size = size
        self.ticks = 0
        self.deeds = []
        self.heard = {0: True}
        self.reached = {0: True}
        self.gone = {}
        # The PARTS that are left to each one who has calls to make.
        parts = parts_of(shape, 0, size - 1)
        self.due = [parts] if parts else []

    def fork(self):
        """A ROUND that stands likewise."""
        other = Round(self.shape, self.size)
        other.ticks = self.ticks
        other.deeds = list(self.deeds)
        other.heard = dict(self.heard)
        other.reached = dict(self.reached)
        other.gone = dict(self.gone)
        other.due = list(self.due)
        return other

    def play(self, deed):
        """Does the deed: the ascending tuple of those who were told in it."""
        word, number = deed
        self.deeds.append(deed)
        if word == GO:
            return self.pass_by(number)
        if word == MISS:
            self.gone[number] = True
        else:
            del self.gone[number]
        return ()

    def pass_by(self, ticks):
        """So many ticks go by: the ascending tuple of those who were told in them."""
        end = self.ticks + ticks
        fresh = []
        while self.due and self.ticks < end:
            fresh.extend(self.call_once())
            self.ticks += 1
        # Behind the last call nothing comes, whatever goes by.
        self.ticks = end
        return tuple(sorted(fresh))

    def call_once(self):
        """A call of each one who has calls left: the list of those who were told."""
        fresh = []
        behind = []
        for parts in self.due:
            first, size = parts[0]
            left = parts[1:]
            self.reached[first] = True
            if first in self.gone:
                left = parts_left(self.shape, parts[0]) + left
            else:
                self.heard[first] = True
                fresh.append(first)
                behind.append(parts_of(self.shape, first, size - 1))
            behind.append(left)
        self.due = [parts for parts in behind if parts]
        return fresh


def played_again(shape, size, past):
    """The ROUND behind these deeds."""
    again = Round(shape, size)
    for deed in past:
        again.play(deed)
    return again
