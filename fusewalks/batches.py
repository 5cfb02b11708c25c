"""Batches: the walks that run on a node in one visit."""

from fusewalks.errors import LimitExceeded, UnboundedBatches

MOST_PAIRS = 30
MOST_BATCH = 6


def steps(program, kind, batch):
    """Yield the steps of the batch at the kind, in order."""
    row = checked_batch(program, kind, batch)
    found = list_steps(program, kind, row)
    yield from found


def child_batches(program, kind, batch):
    """Return a tuple with the batch of each child of the kind, in order."""
    row = checked_batch(program, kind, batch)
    return batches_below(program, kind, row)


def unbounded(program, names):
    """Return a proof `(way, loop, first, second)` that the row's batches grow without bound, or None."""
    row = program.row(names)
    came = _reachable_walks(program, row)
    search = LoopSearch(program)
    for family, first in came:
        for second in program.names:
            loop = search.shortest(family, first, second)
            if loop is not None:
                return (_trail(came, (family, first)), loop, first, second)
    return None


def reached(program, names):
    """Return the list of the pairs of the row, in the order in which they are found."""
    row = program.row(names)
    proof = unbounded(program, row)
    if proof is not None:
        way, loop, first, second = proof
        raise UnboundedBatches(way, loop, first, second)
    pairs = [(program.grammar.root, row)] if len(row) > 0 else []
    at = 0
    while at < len(pairs):
        family, batch = pairs[at]
        below = pairs_below(program, family, batch)
        for _, _, pair in below:
            if len(pair[1]) > MOST_BATCH:
                raise LimitExceeded("batch")
            if pair not in pairs:
                if len(pairs) == MOST_PAIRS:
                    raise LimitExceeded("pairs")
                pairs.append(pair)
        at += 1
    return pairs


def checked_batch(program, kind, batch):
    """Return the batch as a tuple, or raise the error of its kind or of its names."""
    program.grammar.family_of(kind)
    return program.row(batch)


def list_steps(program, kind, batch):
    """Return the steps of a batch of any length."""
    return [
        (turn, index, statement)
        for turn, walk in enumerate(batch)
        for index, statement in enumerate(program.body(walk, kind))
    ]


def batches_below(program, kind, batch):
    """Return the batches of the children for a batch of any length."""
    below = [[] for _ in program.grammar.children_of(kind)]
    for _, _, statement in list_steps(program, kind, batch):
        if statement[0] == "call":
            below[statement[1] - 1].append(statement[2])
    return tuple([tuple(walks) for walks in below])


def pairs_below(program, family, batch):
    """Return `(kind, child, pair)` for each child that is visited below a node of this family with this batch."""
    grammar = program.grammar
    return [
        (kind, number, (grammar.children_of(kind)[number - 1], walks))
        for kind in grammar.kinds_of(family)
        for number, walks in enumerate(batches_below(program, kind, batch), start=1)
        if len(walks) > 0
    ]


def _called(program, walk, kind, child):
    """Return the walks that the walk's body for this kind calls on this child, one for each statement."""
    return [part[2] for part in program.body(walk, kind) if part[0] == "call" and part[1] == child]


def _moves(grammar, family):
    """Return all moves from the family as `(kind, child, family of that child)`."""
    return [
        (kind, number, below)
        for kind in grammar.kinds_of(family)
        for number, below in enumerate(grammar.children_of(kind), start=1)
    ]


def _reachable_walks(program, row):
    """Return each `(family, walk)` to which a chain leads from the row, with the place and the move before it."""
    came = {(program.grammar.root, walk): None for walk in row}
    queue = list(came)
    at = 0
    while at < len(queue):
        family, walk = queue[at]
        for kind, child, below in _moves(program.grammar, family):
            for called in _called(program, walk, kind, child):
                if (below, called) not in came:
                    came[(below, called)] = (queue[at], (kind, child))
                    queue.append((below, called))
        at += 1
    return came


def _trail(came, place):
    """Return the moves that lead from a start of a search to the place."""
    moves = []
    link = came[place]
    while link is not None:
        before, move = link
        moves.append(move)
        link = came[before]
    return tuple(moves[::-1])


class LoopSearch:
    """Searches loops along which a batch grows.

    A state is `(family, one, two, three, parted)`: the ends of three chains along the same moves, and whether
    the first two chains are different. A loop leads from a walk to itself, from it to a second walk by a different
    chain, and from the second walk to itself. What follows a state is kept, since many searches meet it.
    """

    def __init__(self, program):
        self._program = program
        self._known = {}

    def shortest(self, family, first, second):
        """Return the moves of a shortest loop of these walks at this family, or None."""
        goal = (family, first, second, second, True)
        start = (family, first, first, second, False)
        came = {start: None}
        queue = [start]
        at = 0
        while at < len(queue) and goal not in came:
            state = queue[at]
            following = self._after(state)
            for follower in following:
                if follower not in came:
                    came[follower] = (state, following[follower])
                    queue.append(follower)
            at += 1
        return _trail(came, goal) if goal in came else None

    def _after(self, state):
        """Return the states that follow a state, each with a move that leads to it."""
        if state not in self._known:
            self._known[state] = self._find_after(state)
        return self._known[state]

    def _find_after(self, state):
        family, one, two, three, parted = state
        found = {}
        for kind, child, below in _moves(self._program.grammar, family):
            ones = _called(self._program, one, kind, child)
            twos = _called(self._program, two, kind, child)
            threes = _called(self._program, three, kind, child)
            for i, to_one in enumerate(ones):
                for j, to_two in enumerate(twos):
                    for to_three in threes:
                        found[(below, to_one, to_two, to_three, parted or i != j)] = (kind, child)
        return found
