"""A second, plain reading of DOC.md, against which the tests compare the program.

It works on plain data: a `Case`, and shapes of trees, which are tuples `(kind, children)`. It shares no code with
the program and searches through all possibilities instead of being clever.
"""

from itertools import combinations, permutations


class Case:
    """A grammar, the bodies of walks and ignored fields, as plain data."""

    def __init__(self, fields, kinds, walks, ignored=(), root=None):
        self.fields = list(fields)
        self.kinds = list(kinds)
        self.walks = walks
        self.ignored = tuple(ignored)
        self.family = {name: family for name, family, _ in kinds}
        self.children = {name: list(children) for name, _, children in kinds}
        self.root = kinds[0][1] if root is None else root

    def body(self, walk, kind):
        return self.walks[walk].get(kind, [])

    def kinds_of(self, family):
        return [name for name, of, _ in self.kinds if of == family]


def shapes(case, family, size):
    """Return all trees of the family with exactly this many nodes."""
    found = []
    for kind in case.kinds_of(family):
        for children in _forests(case, case.children[kind], size - 1):
            found.append((kind, children))
    return found


def _forests(case, families, size):
    if not families:
        return [()] if size == 0 else []
    found = []
    for first in range(1, size - len(families) + 2):
        for tree in shapes(case, families[0], first):
            for rest in _forests(case, families[1:], size - first):
                found.append((tree, *rest))
    return found


def shape_paths(shape):
    found = [()]
    for number, child in enumerate(shape[1], start=1):
        found.extend((number, *path) for path in shape_paths(child))
    return found


def at(shape, path):
    for number in path:
        shape = shape[1][number - 1]
    return shape


def _place(path, place):
    return path if place == 0 else path + (place,)


def plain(case, row, shape):
    """Return the events of the plain run as `(event, [(path, field), ..], (path, field))`, in order."""
    visits = {}
    log = []

    def visit(walk, path):
        kind = at(shape, path)[0]
        turn = visits.get(path, 0)
        visits[path] = turn + 1
        for index, statement in enumerate(case.body(walk, kind)):
            if statement[0] == "call":
                visit(statement[2], path + (statement[1],))
            else:
                log.append(_entry(path, turn, index, statement))

    for walk in row:
        visit(walk, ())
    return log


def _entry(path, turn, index, statement):
    _, place, field, reads = statement
    touched = [(_place(path, there), name) for there, name in reads]
    return ((path, turn, index), touched, (_place(path, place), field))


def statements_run(case, row, shape):
    """Return how many statements the plain run executes."""
    count = 0
    todo = [(walk, shape) for walk in row]
    while todo:
        walk, node = todo.pop()
        for statement in case.body(walk, node[0]):
            count += 1
            if statement[0] == "call":
                todo.append((statement[2], node[1][statement[1] - 1]))
    return count


def fused(case, row, shape, schedules, begun=None):
    """Return the events and the visited paths of a fused run with these schedules; `begun` are earlier turns."""
    log = []
    visited = []
    begun = {} if begun is None else begun

    def visit(path, batch):
        kind = at(shape, path)[0]
        first = begun.get(path, 0)
        begun[path] = first + len(batch)
        visited.append(path)
        for item in schedules[(kind, batch)]:
            if item[0] == "call":
                visit(path + (item[1],), child_batch(case, kind, batch, item[1]))
            else:
                _, turn, index = item
                log.append(_entry(path, first + turn, index, case.body(batch[turn], kind)[index]))

    if row:
        visit((), tuple(row))
    return log, visited


def record(log, left_out=()):
    """Return `(reads of each event, writers of each field of each node)`, without these fields."""
    reads = {}
    writes = {}
    for event, touched, target in log:
        reads[event] = tuple(
            (path, field, writes.get((path, field), [None])[-1]) for path, field in touched
        )
        writes.setdefault(target, []).append(event)
    kept = {event: tuple(read for read in reads[event] if read[1] not in left_out) for event in reads}
    return kept, {place: tuple(writes[place]) for place in writes if place[1] not in left_out}


def steps(case, kind, batch):
    return [
        (turn, index, statement)
        for turn, walk in enumerate(batch)
        for index, statement in enumerate(case.body(walk, kind))
    ]


def child_batch(case, kind, batch, child):
    return tuple(s[2] for _, _, s in steps(case, kind, batch) if s[0] == "call" and s[1] == child)


def pairs(case, row, most=None):
    """Return the pairs of a row in the order of point 14, without the limits; None if there are more than `most`."""
    found = [(case.root, tuple(row))] if row else []
    for family, batch in found:
        for kind in case.kinds_of(family):
            for number, below in enumerate(case.children[kind], start=1):
                pair = (below, child_batch(case, kind, batch, number))
                if pair[1] and pair not in found:
                    found.append(pair)
                    if most is not None and (len(found) > most or len(pair[1]) > most):
                        return None
    return found


def limit(case, row):
    """Return the name of the limit that point 15 raises, or None; only for rows whose batches are bounded."""
    found = [(case.root, tuple(row))] if row else []
    for family, batch in found:
        for kind in case.kinds_of(family):
            for number, below in enumerate(case.children[kind], start=1):
                pair = (below, child_batch(case, kind, batch, number))
                if len(pair[1]) > 6:
                    return "batch"
                if pair[1] and pair not in found:
                    if len(found) == 30:
                        return "pairs"
                    found.append(pair)
    return None


def chain_counts(case, moves, start):
    """Return for each walk how many chains lead to it along the moves from the walk `start`."""
    counts = {start: 1}
    for kind, child in moves:
        after = {}
        for walk, many in counts.items():
            for statement in case.body(walk, kind):
                if statement[0] == "call" and statement[1] == child:
                    after[statement[2]] = after.get(statement[2], 0) + many
        counts = after
    return counts


def lead(case, moves, family):
    """Return the family to which the moves lead, or None if they do not fit together."""
    for kind, child in moves:
        if case.family[kind] != family or not 1 <= child <= len(case.children[kind]):
            return None
        family = case.children[kind][child - 1]
    return family


def items(case, kind, batch):
    found = []
    for turn, index, statement in steps(case, kind, batch):
        item = ("call", statement[1]) if statement[0] == "call" else ("set", turn, index)
        if item not in found:
            found.append(item)
    return found


def clashes(case, kind, batch):
    """Return all `(earlier, later, clash)` by running the batch on the node and a child of each kind."""
    found = []
    choices = [(0, None)]
    for number, family in enumerate(case.children[kind], start=1):
        choices.extend((number, below) for below in case.kinds_of(family))
    for number, below in choices:
        log = _local_log(case, kind, batch, number, below)
        for one, two in combinations(log, 2):
            for entry in _entry_clashes(case, one, two):
                if entry not in found:
                    found.append(entry)
    return found


def _local_log(case, kind, batch, number, below):
    """Return `(item, event, reads, write)` for the node's events and those of one child, in the plain order."""
    log = []
    turns = 0
    for turn, index, statement in steps(case, kind, batch):
        if statement[0] == "set":
            log.append((("set", turn, index), (0, kind, turn, index), statement[3], (statement[1], statement[2])))
        elif statement[1] == number:
            for at_child, inner in enumerate(case.body(statement[2], below)):
                if inner[0] == "set":
                    reads = [(number, field) for place, field in inner[3] if place == 0]
                    write = (number, inner[2]) if inner[1] == 0 else None
                    log.append((("call", number), (number, below, turns, at_child), reads, write))
            turns += 1
    return log


def _entry_clashes(case, one, two):
    if one[0] == two[0]:
        return []
    places = {*one[2], one[3]} & {*two[2], two[3]}
    return [
        (one[0], two[0], (one[1], two[1], place[0], place[1]))
        for place in places
        if place is not None and place in (one[3], two[3]) and place[1] not in case.ignored
    ]


def dependencies(case, kind, batch):
    linked = {(earlier, later) for earlier, later, _ in clashes(case, kind, batch)}
    order = items(case, kind, batch)
    return [(one, two) for one in order for two in order if (one, two) in linked]


def shortest_cycle(case, kind, batch):
    """Return the length of a shortest cycle, 0 if there is none."""
    linked = set(dependencies(case, kind, batch))
    order = items(case, kind, batch)
    for many in range(2, len(order) + 1):
        for row in permutations(order, many):
            if all((row[k], row[(k + 1) % many]) in linked for k in range(many)):
                return many
    return 0


def schedules(case, kind, batch):
    """Return all schedules that keep all dependencies."""
    linked = dependencies(case, kind, batch)
    return [
        row
        for row in permutations(items(case, kind, batch))
        if all(row.index(one) < row.index(two) for one, two in linked)
    ]


def has_cycle(case, kind, batch):
    """Return whether the dependencies have a cycle, by taking away items that nothing must precede."""
    linked = dependencies(case, kind, batch)
    left = items(case, kind, batch)
    while left:
        free = [item for item in left if not any(two == item and one in left for one, two in linked)]
        if not free:
            return True
        left = [item for item in left if item not in free]
    return False


def fusable(case, row):
    """Return whether the row can be fused; its batches must be bounded."""
    if limit(case, row) is not None:
        return False
    return not any(
        has_cycle(case, kind, batch) for family, batch in pairs(case, row) for kind in case.kinds_of(family)
    )


def cuts(row):
    """Return all ways to cut the row into groups."""
    if not row:
        return [()]
    found = []
    for end in range(1, len(row) + 1):
        found.extend((tuple(row[:end]), *rest) for rest in cuts(row[end:]))
    return found
