"""Trees over a grammar."""

from fusewalks.errors import BadTree, LimitExceeded


class Tree:
    """A node of a kind with one subtree for each child of the kind. It does not change."""

    MOST_NODES = 1000
    MOST_DEPTH = 50

    def __init__(self, grammar, kind, *children):
        families = grammar.children_of(kind)
        if len(children) != len(families):
            raise BadTree(())
        for number, child in enumerate(children, start=1):
            if child.family != families[number - 1]:
                raise BadTree((number,))
        self.kind = kind
        self.family = grammar.family_of(kind)
        self.size = 1 + sum([child.size for child in children])
        self.depth = 1 + max([int(child.depth) for child in children], default=0)
        self._children = tuple(children)
        if self.size > Tree.MOST_NODES:
            raise LimitExceeded("nodes")
        if self.depth > Tree.MOST_DEPTH:
            raise LimitExceeded("depth")

    def __iter__(self):
        return iter(self._children)

    def __contains__(self, path):
        return self._node_at(path) is not None

    def __getitem__(self, path):
        node = self._node_at(path)
        if node is None:
            raise BadTree(path)
        return node

    def __eq__(self, other):
        return isinstance(other, Tree) and self.kind == other.kind and self._children == other._children

    def paths(self):
        """Yield the paths of all nodes: a node before its children, one child's subtree after the other."""
        yield ()
        for number, child in enumerate(self._children, start=1):
            for path in child.paths():
                yield (number, *path)

    @staticmethod
    def least(grammar, family):
        """Return a tree of the family with the fewest nodes."""
        size = grammar.least_size(family)
        smallest = [kind for kind in grammar.kinds_of(family) if grammar.kind_size(kind) == size]
        children = [Tree.least(grammar, child) for child in grammar.children_of(smallest[0])]
        return Tree(grammar, smallest[0], *children)

    def _node_at(self, path):
        """Return the subtree at the path, or None if the path leads to no node."""
        node = self
        for number in path:
            if number < 1 or number > len(node._children):
                return None
            node = node._children[number - 1]
        return node
