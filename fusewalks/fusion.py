"""Fusions: a row of walks run as one walk that visits every node at most once."""

from fusewalks.batches import batches_below, pairs_below, reached
from fusewalks.dependencies import dependencies, items_of, least_schedule, list_clashes
from fusewalks.errors import BadSchedule, NotReached
from fusewalks.smallest import nearest_ways, shown_size, shown_tree
from fusewalks.traces import Recorder, check_root


class Fusion:
    """A fusion of a row: one schedule for each kind and batch that is reached."""

    def __init__(self, program, names):
        grammar = program.grammar
        self._program = program
        self._row = program.row(names)
        self._pairs = reached(program, self._row)
        self._keys = tuple([(kind, batch) for family, batch in self._pairs for kind in grammar.kinds_of(family)])
        self._schedules = {(kind, batch): items_of(program, kind, batch) for kind, batch in self._keys}

    def __iter__(self):
        return iter(self._keys)

    def __len__(self):
        return len(self._keys)

    def __contains__(self, key):
        return key in self._keys

    def __getitem__(self, key):
        self._check_key(key)
        return list(self._schedules[key])

    def __setitem__(self, key, schedule):
        self._check_key(key)
        kind, batch = key
        items = items_of(self._program, kind, batch)
        if len(schedule) != len(items) or any([item not in schedule for item in items]):
            raise BadSchedule(kind, batch)
        self._schedules[key] = list(schedule)

    def __call__(self, tree):
        recorder = Recorder()
        self.run_into(recorder, tree)
        return recorder.finished()

    def reorder(self, kind, batch, schedule):
        """Replace the schedule of the key `(kind, batch)`."""
        self[(kind, batch)] = schedule

    def arrange(self):
        """Replace all schedules by the least ones, or none of them if there is a cycle."""
        self._schedules = {(kind, batch): least_schedule(self._program, kind, batch) for kind, batch in self._keys}

    def fault(self):
        """Return None if the fusion is right with its present schedules, otherwise a fault."""
        grammar = self._program.grammar
        ways = nearest_ways(self._program, self._pairs)
        least = None
        chosen = None
        for kind, batch in self._keys:
            outside = ways[(grammar.family_of(kind), batch)][0]
            # No clash of this key is shown by a tree with fewer nodes than these.
            if least is not None and least <= outside + grammar.kind_size(kind):
                continue
            for earlier, later, clash in self._broken_clashes(kind, batch):
                size = outside + shown_size(grammar, kind, clash[0], clash[1])
                if least is None or size < least:
                    least = size
                    chosen = (kind, batch, earlier, later, clash)
        if chosen is None:
            return None
        kind, batch, earlier, later, clash = chosen
        pair = (grammar.family_of(kind), batch)
        tree, path = shown_tree(grammar, ways, pair, kind, clash[0], clash[1])
        return Fault(tree, path, kind, batch, earlier, later, clash)

    def visits(self, tree):
        """Yield the paths of the nodes that the fused run visits, in the order in which the visits begin."""
        recorder = Recorder()
        self.run_into(recorder, tree)
        entered = list(recorder.entered)
        yield from entered

    def listing(self):
        """Return the schedules as a list of lines."""
        lines = []
        for kind, batch in self._keys:
            names = ", ".join(batch)
            lines.append(f"{kind} [{names}]")
            for number, item in enumerate(self._schedules[(kind, batch)], start=1):
                label, text = _described(self._program, kind, batch, item)
                lines.append(f"{number:>3} {label:<15}{text}")
        return lines

    def run_into(self, recorder, tree):
        """Run the fusion on the tree, after what the recorder has recorded already."""
        check_root(self._program, tree)
        if len(self._row) > 0:
            self._visit(recorder, tree, (), self._row)

    def _visit(self, recorder, node, path, batch):
        begun = recorder.enter(path, len(batch))
        children = list(node)
        below = batches_below(self._program, node.kind, batch)
        for item in self._schedules[(node.kind, batch)]:
            if item[0] == "set":
                _, turn, index = item
                statement = self._program.body(batch[turn], node.kind)[index]
                recorder.record(path, begun + turn, index, statement)
            else:
                _, number = item
                self._visit(recorder, children[number - 1], (*path, number), below[number - 1])

    def _check_key(self, key):
        if key not in self._keys:
            kind, batch = key
            raise NotReached(kind, batch)

    def _broken_clashes(self, kind, batch):
        """Return `(earlier, later, clash)` for the clashes whose dependencies the schedule does not keep."""
        places = {item: at for at, item in enumerate(self._schedules[(kind, batch)])}
        linked = dependencies(self._program, kind, batch)
        if all([places[earlier] < places[later] for earlier, later in linked]):
            return []
        return [row for row in list_clashes(self._program, kind, batch) if places[row[1]] < places[row[0]]]


class Fault:
    """A dependency that a schedule does not keep, a clash that causes it, and a smallest tree that shows it."""

    def __init__(self, tree, path, kind, batch, earlier, later, clash):
        self.tree = tree
        self.path = path
        self.kind = kind
        self.batch = batch
        self.earlier = earlier
        self.later = later
        self.first, self.second, self.place, self.field = clash


def smallest_tree(program, names, kind, batch, first, second):
    """Return a smallest tree in which both events happen at a node of this kind with this batch, and its path."""
    grammar = program.grammar
    pairs = reached(program, names)
    if kind not in grammar.kinds or (grammar.family_of(kind), tuple(batch)) not in pairs:
        raise NotReached(kind, batch)
    pair = (grammar.family_of(kind), tuple(batch))
    return shown_tree(grammar, nearest_ways(program, pairs), pair, kind, first, second)


def fuse(program, names):
    """Return a new fusion of the row that is arranged."""
    fusion = Fusion(program, names)
    fusion.arrange()
    return fusion


def _described(program, kind, batch, item):
    """Return the label and the text of an item in a listing."""
    if item[0] == "call":
        _, child = item
        below = batches_below(program, kind, batch)
        return (f"call {child}", ", ".join(below[child - 1]))
    _, turn, index = item
    walk = batch[turn]
    _, place, field, reads = program.body(walk, kind)[index]
    read = ", ".join([_place_name(there, name) for there, name in reads])
    return (f"{walk}.{index}", f"{_place_name(place, field)} = f({read})")


def _place_name(place, field):
    """Return how a listing writes a field of the node itself (place 0) or of a child."""
    return field if place == 0 else f"{place}.{field}"
