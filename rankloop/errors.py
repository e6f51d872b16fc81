"""The refusals of the program, each with its fields.

No message shows a field: a field may be anything, also a number of more
figures than Python writes.
"""


class NoText(ValueError):
    """What should be read isn't so written; row is the number of a row of it."""

    def __init__(self, row):
        ValueError.__init__(self, "this text is written of nothing")
        self.row = row


class NoRow(ValueError):
    """A desk was told what is no row."""

    def __init__(self, row):
        ValueError.__init__(self, "a desk has no such row")
        self.row = row


class NoScript(ValueError):
    """A thing that should be a script is none."""

    def __init__(self, thing):
        ValueError.__init__(self, "this is no script")
        self.thing = thing


class TooMany(ValueError):
    """There are more than most of what should be told."""

    def __init__(self, most):
        ValueError.__init__(self, "there are too many")
        self.most = most


class NoLoop(KeyError):
    """A desk has no loop by this name."""

    def __init__(self, name):
        KeyError.__init__(self, "there is no loop by this name")
        self.name = name


class NoPromise(KeyError):
    """A loop has no promise by this name."""

    def __init__(self, name):
        KeyError.__init__(self, "there is no promise by this name")
        self.name = name


class NoMark(KeyError):
    """A desk keeps no mark of the loop by this name."""

    def __init__(self, name):
        KeyError.__init__(self, "the loop by this name was not marked")
        self.name = name


class NoRank(IndexError):
    """A loop lacks this rank."""

    def __init__(self, rank):
        IndexError.__init__(self, "the loop lacks this rank")
        self.rank = rank


class Busy(RuntimeError):
    """A loop was asked for what it can't do while a def is asked."""

    def __init__(self):
        RuntimeError.__init__(self, "the loop is busy")


class Undone(LookupError):
    """One of several rows was refused, and none of them is done; why is that refusal."""

    def __init__(self, row, why):
        LookupError.__init__(self, "a row was refused, and none is done")
        self.row = row
        self.why = why
