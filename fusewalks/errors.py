"""The errors of the program.

No error passes a message on: Python shows the arguments with which an error was created.
"""


class WalkError(ValueError):
    """The base class of all errors of the program."""


class LimitExceeded(WalkError):
    """There is more of something than the limit of this name allows."""

    def __init__(self, limit):
        self.limit = limit


class UnknownName(WalkError):
    """Nothing of the wanted sort has this name."""

    def __init__(self, name):
        self.name = name


class BadGrammar(WalkError):
    """This part of a grammar breaks a rule."""

    def __init__(self, part):
        self.part = part


class BadTree(WalkError):
    """The tree is wrong at this path, or the path leads to no node."""

    def __init__(self, path):
        self.path = tuple(path)


class BadStatement(WalkError):
    """The statement at this index of the body of this walk for this kind is invalid."""

    def __init__(self, walk, kind, index):
        self.walk = walk
        self.kind = kind
        self.index = index


class BadSchedule(WalkError):
    """The schedule does not contain every item of this batch at this kind exactly once."""

    def __init__(self, kind, batch):
        self.kind = kind
        self.batch = tuple(batch)


class NotReached(WalkError):
    """No tree has a node of this kind with this batch."""

    def __init__(self, kind, batch):
        self.kind = kind
        self.batch = tuple(batch)


class UnboundedBatches(WalkError):
    """The batches grow without bound along this way and this loop."""

    def __init__(self, way, loop, first, second):
        self.way = tuple(way)
        self.loop = tuple(loop)
        self.first = first
        self.second = second


class DependencyCycle(WalkError):
    """The dependencies of this batch at this kind have this cycle."""

    def __init__(self, kind, batch, cycle):
        self.kind = kind
        self.batch = tuple(batch)
        self.cycle = tuple(cycle)
