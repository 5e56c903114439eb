"""The errors that this package raises."""


class BadRule(ValueError):
    """What should be a rule is none: part tells what is wrong with it."""

    def __init__(self, part):
        ValueError.__init__(self, part)
        self.part = part


class BadPaper(ValueError):
    """A paper does not hold: part tells where."""

    def __init__(self, part):
        ValueError.__init__(self, part)
        self.part = part


class BadText(ValueError):
    """A text cannot be read: line tells which row of it."""

    def __init__(self, line):
        ValueError.__init__(self, line)
        self.line = line


class OutOfPlace(ValueError):
    """An argument is not of the kind that is asked for."""

    def __init__(self, text):
        ValueError.__init__(self, text)


class BadKind(ValueError):
    """What should be a kind of tree is none: part tells what is wrong with it."""

    def __init__(self, part):
        ValueError.__init__(self, part)
        self.part = part


class TooGreat(OverflowError):
    """Something is beyond what is worked out: most tells the bound."""

    def __init__(self, most):
        OverflowError.__init__(self, most)
        self.most = most


class Nothing(LookupError):
    """There is nothing of what is asked for."""

    def __init__(self, text):
        LookupError.__init__(self, text)
