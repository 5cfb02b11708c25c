import unittest

from fusewalks.errors import BadTree, LimitExceeded, UnknownName
from fusewalks.grammar import Grammar
from fusewalks.trees import Tree

from tests import oracle
from tests.samples import LINE, expr_grammar, line_tree, random_case, to_program, to_tree

GRAMMAR = Grammar(["a"], [("node", "x", ["x", "y"]), ("leaf", "x", []), ("dot", "y", []), ("wrap", "y", ["x"])])


def leaf():
    return Tree(GRAMMAR, "leaf")


def sample():
    """Return node(leaf, wrap(node(leaf, dot)))."""
    inner = Tree(GRAMMAR, "node", leaf(), Tree(GRAMMAR, "dot"))
    return Tree(GRAMMAR, "node", leaf(), Tree(GRAMMAR, "wrap", inner))


def wide(grammar, many):
    """Return a tree of the kinds leaf and pair with this odd number of nodes and little depth."""
    if many == 1:
        return Tree(grammar, "leaf")
    half = (many - 1) // 2
    first = half if half % 2 == 1 else half + 1
    return Tree(grammar, "pair", wide(grammar, first), wide(grammar, many - 1 - first))


class Making(unittest.TestCase):
    def test_attributes(self):
        tree = sample()
        self.assertEqual((tree.kind, tree.family, tree.size, tree.depth), ("node", "x", 6, 4))
        self.assertEqual((leaf().size, leaf().depth), (1, 1))
        self.assertEqual((Tree.MOST_NODES, Tree.MOST_DEPTH), (1000, 50))

    def test_errors(self):
        dot = Tree(GRAMMAR, "dot")
        with self.assertRaises(UnknownName) as caught:
            Tree(GRAMMAR, "nothing", leaf())
        self.assertEqual(caught.exception.name, "nothing")
        for children in ((), (leaf(),), (leaf(), dot, leaf())):
            with self.assertRaises(BadTree) as caught:
                Tree(GRAMMAR, "node", *children)
            self.assertEqual(caught.exception.path, ())
        for children, path in (((leaf(), leaf()), (2,)), ((dot, dot), (1,)), ((dot, leaf()), (1,))):
            with self.assertRaises(BadTree) as caught:
                Tree(GRAMMAR, "node", *children)
            self.assertEqual(caught.exception.path, path)

    def test_number_of_children_comes_first(self):
        with self.assertRaises(BadTree) as caught:
            Tree(GRAMMAR, "node", Tree(GRAMMAR, "dot"))
        self.assertEqual(caught.exception.path, ())

    def test_depth(self):
        grammar = Grammar([], LINE)
        tree = line_tree(grammar, 50)
        self.assertEqual((tree.depth, tree.size), (50, 50))
        with self.assertRaises(LimitExceeded) as caught:
            Tree(grammar, "link", tree)
        self.assertEqual(caught.exception.limit, "depth")

    def test_nodes(self):
        grammar = expr_grammar()
        self.assertEqual(wide(grammar, 999).size, 999)
        with self.assertRaises(LimitExceeded) as caught:
            wide(grammar, 1001)
        self.assertEqual(caught.exception.limit, "nodes")

    def test_exactly_the_most_nodes(self):
        grammar = Grammar([], [("leaf", "x", []), ("pair", "x", ["x", "x"]), ("one", "x", ["x"])])
        tree = Tree(grammar, "one", wide(grammar, 999))
        self.assertEqual(tree.size, 1000)
        with self.assertRaises(LimitExceeded) as caught:
            Tree(grammar, "one", tree)
        self.assertEqual(caught.exception.limit, "nodes")

    def test_order_of_the_errors(self):
        grammar = Grammar([], [("leaf", "x", []), ("pair", "x", ["x", "x"]), ("dot", "y", [])])
        tall = Tree(grammar, "leaf")
        for _ in range(49):
            tall = Tree(grammar, "pair", Tree(grammar, "leaf"), tall)
        self.assertEqual((tall.depth, tall.size), (50, 99))
        with self.assertRaises(LimitExceeded) as caught:
            Tree(grammar, "pair", tall, wide(grammar, 901))
        self.assertEqual(caught.exception.limit, "nodes")
        with self.assertRaises(LimitExceeded) as caught:
            Tree(grammar, "pair", tall, wide(grammar, 899))
        self.assertEqual(caught.exception.limit, "depth")
        with self.assertRaises(BadTree) as caught:
            Tree(grammar, "pair", tall, Tree(grammar, "dot"))
        self.assertEqual(caught.exception.path, (2,))

    def test_least(self):
        for seed in range(100):
            case, _ = random_case(seed)
            grammar = to_program(case).grammar
            for family in grammar.families:
                tree = Tree.least(grammar, family)
                self.assertEqual((tree.family, tree.size), (family, grammar.least_size(family)))
                for path in tree.paths():
                    node = tree[path]
                    self.assertEqual(grammar.family_of(node.kind), node.family)
        with self.assertRaises(UnknownName) as caught:
            Tree.least(GRAMMAR, "leaf")
        self.assertEqual(caught.exception.name, "leaf")


class Asking(unittest.TestCase):
    def test_children(self):
        tree = sample()
        self.assertEqual([child.kind for child in tree], ["leaf", "wrap"])
        self.assertEqual(list(leaf()), [])

    def test_paths(self):
        wanted = [(), (1,), (2,), (2, 1), (2, 1, 1), (2, 1, 2)]
        self.assertEqual(list(sample().paths()), wanted)
        self.assertEqual(next(iter(leaf().paths())), ())

    def test_paths_of_many_trees(self):
        for seed in range(60):
            case, _ = random_case(seed)
            grammar = to_program(case).grammar
            for shape in oracle.shapes(case, case.root, 5)[:20]:
                tree = to_tree(grammar, shape)
                self.assertEqual(list(tree.paths()), oracle.shape_paths(shape))
                self.assertEqual(tree.size, 5)
                self.assertEqual(tree.depth, 1 + max(map(len, tree.paths())))

    def test_contains(self):
        tree = sample()
        for path in tree.paths():
            self.assertIs(path in tree, True)
        for path in ((0,), (3,), (-1,), (1, 1), (2, 2), (2, 0), (2, 1, 3), (-1, 1)):
            self.assertIs(path in tree, False)

    def test_items(self):
        tree = sample()
        self.assertEqual(tree[()], tree)
        self.assertEqual(tree[(2, 1, 2)].kind, "dot")
        for path in ((0,), (3,), (-1,), (1, 1), (2, 1, 0)):
            with self.assertRaises(BadTree) as caught:
                tree[path]
            self.assertEqual(caught.exception.path, path)

    def test_equality(self):
        self.assertIs(sample() == sample(), True)
        self.assertIs(sample() == leaf(), False)
        self.assertIs(sample() != sample(), False)
        self.assertIs(sample() == sample()[(2, 1)], False)
        other = Grammar([], [("leaf", "z", []), ("node", "z", ["z", "z"])], root="z")
        self.assertIs(leaf() == Tree(other, "leaf"), True)
        self.assertIs(leaf() == "leaf", False)

    def test_equality_of_many_trees(self):
        case, _ = random_case(3)
        grammar = to_program(case).grammar
        found = [shape for size in range(1, 6) for shape in oracle.shapes(case, case.root, size)][:40]
        for one in found:
            for two in found:
                self.assertIs(to_tree(grammar, one) == to_tree(grammar, two), one == two)

    def test_paths_may_be_left_early(self):
        tree = sample()
        for path in tree.paths():
            if path == (2,):
                break
        self.assertEqual(len(list(tree.paths())), 6)


if __name__ == "__main__":
    unittest.main()
