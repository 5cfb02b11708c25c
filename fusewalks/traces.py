"""Traces: the records of runs, and the plain run."""

from fusewalks.errors import BadTree, LimitExceeded

MOST_STEPS = 40000


class Trace:
    """The record of a run: its events, what each of them read, and who wrote what."""

    def __init__(self, events, sources, written):
        self._events = tuple(events)
        self._sources = {event: tuple(sources[event]) for event in sources}
        self._written = {at: tuple(written[at]) for at in written}

    def __iter__(self):
        return iter(self._events)

    def __len__(self):
        return len(self._events)

    def __eq__(self, other):
        return (
            isinstance(other, Trace)
            and self._sources == other._sources
            and self._written == other._written
        )

    def reads(self, event):
        """Return the tuple of the event's reads, empty if the event did not happen."""
        return self._sources.get(event, ())

    def writes(self, path, field):
        """Return the tuple of the events that wrote this field of this node, in order."""
        return self._written.get((path, field), ())

    def without(self, *fields):
        """Return a new trace without the reads and the writes of these fields."""
        sources = {event: [read for read in self._sources[event] if read[1] not in fields] for event in self._events}
        written = {at: self._written[at] for at in self._written if at[1] not in fields}
        return Trace(self._events, sources, written)


class Recorder:
    """What a run has recorded so far."""

    def __init__(self):
        self.entered = []
        self._turns = {}
        self._events = []
        self._sources = {}
        self._written = {}

    def enter(self, path, many):
        """Begin a visit of so many turns at the node; return its first turn."""
        turn = self._turns.get(path, 0)
        self._turns[path] = turn + many
        self.entered.append(path)
        return turn

    def record(self, path, turn, index, statement):
        """Record the event of a "set" statement: all its reads, then its write."""
        event = (path, turn, index)
        _, place, field, reads = statement
        self._events.append(event)
        self._sources[event] = [self._read(_place_path(path, there), name) for there, name in reads]
        self._written.setdefault((_place_path(path, place), field), []).append(event)

    def finished(self):
        """Return the trace of what has been recorded."""
        return Trace(self._events, self._sources, self._written)

    def _read(self, path, field):
        writers = self._written.get((path, field), [None])
        return (path, field, writers[-1])


class PlainRun:
    """A plain run that is under way: what it has recorded, and how many statements it has executed."""

    def __init__(self, program):
        self.recorder = Recorder()
        self._program = program
        self._executed = 0

    def visit(self, walk, node, path):
        """Run the walk on the node at the path."""
        turn = self.recorder.enter(path, 1)
        children = list(node)
        for index, statement in enumerate(self._program.body(walk, node.kind)):
            self._count()
            if statement[0] == "set":
                self.recorder.record(path, turn, index, statement)
            else:
                _, number, called = statement
                self.visit(called, children[number - 1], (*path, number))

    def _count(self):
        if self._executed == MOST_STEPS:
            raise LimitExceeded("steps")
        self._executed += 1


def run(program, names, tree):
    """Return the trace of the plain run of the row."""
    row = program.row(names)
    check_root(program, tree)
    plain = PlainRun(program)
    for walk in row:
        plain.visit(walk, tree, ())
    return plain.recorder.finished()


def check_root(program, tree):
    """Raise an error if the tree is not of the root family."""
    if tree.family != program.grammar.root:
        raise BadTree(())


def _place_path(path, place):
    """Return the path of the node itself (place 0) or of a child."""
    return path if place == 0 else (*path, place)
