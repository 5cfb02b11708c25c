"""Smallest trees in which a node has a given kind and batch."""

from fusewalks.batches import pairs_below
from fusewalks.trees import Tree


def nearest_ways(program, pairs):
    """Return for each pair `(outside, before, move)`.

    `outside` is the fewest nodes of a tree outside the subtree of a node with this pair, `before` the pair of that
    node's parent, and `move` the move from the parent. For the root `before` and `move` are None.
    """
    grammar = program.grammar
    ways = {pair: (0, None, None) for pair in pairs[:1]}
    changed = True
    while changed:
        changed = False
        for pair in pairs:
            for kind, number, below in pairs_below(program, pair[0], pair[1]):
                outside = ways[pair][0] + grammar.kind_size(kind) - grammar.least_size(below[0])
                if below not in ways or outside < ways[below][0]:
                    ways[below] = (outside, pair, (kind, number))
                    changed = True
    return ways


def shown_size(grammar, kind, first, second):
    """Return the size of a smallest tree with a root of this kind in which both events happen."""
    child, below = _child_of_events(first, second)
    if child == 0:
        return grammar.kind_size(kind)
    return grammar.kind_size(kind) - grammar.least_size(grammar.family_of(below)) + grammar.kind_size(below)


def shown_tree(grammar, ways, pair, kind, first, second):
    """Return a smallest tree in which both events happen at a node of this kind with this pair, and its path."""
    child, below = _child_of_events(first, second)
    tree = _least_of_kind(grammar, kind)
    if child > 0:
        tree = _holding(grammar, kind, child, _least_of_kind(grammar, below))
    path = ()
    _, before, move = ways[pair]
    while before is not None:
        tree = _holding(grammar, move[0], move[1], tree)
        path = (move[1], *path)
        _, before, move = ways[before]
    return (tree, path)


def _child_of_events(first, second):
    """Return the number and the kind of the child at which one of the events happens; the number is 0 if none does."""
    event = first if first[0] > 0 else second
    return (event[0], event[1])


def _least_of_kind(grammar, kind):
    """Return a smallest tree with a root of this kind."""
    children = [Tree.least(grammar, family) for family in grammar.children_of(kind)]
    return Tree(grammar, kind, *children)


def _holding(grammar, kind, number, tree):
    """Return a smallest tree with a root of this kind whose child of this number is the given tree."""
    children = [Tree.least(grammar, family) for family in grammar.children_of(kind)]
    children[number - 1] = tree
    return Tree(grammar, kind, *children)
