import random
import unittest

from fusewalks.errors import BadGrammar, LimitExceeded, UnknownName
from fusewalks.grammar import Grammar

from tests import oracle
from tests.samples import EXPR, expr_grammar, random_case, to_program

SIX = ["a", "b", "c", "d", "e", "f"]


def leaves(many, family="x"):
    return [("k" + "abcdefghi"[k], family, []) for k in range(many)]


class Attributes(unittest.TestCase):
    def test_ordinary(self):
        kinds = [("root", "top", ["low", "mid"]), ("leaf", "low", ()), ("node", "mid", ["low"]), ("cut", "top", [])]
        grammar = Grammar(("b", "a"), kinds)
        self.assertEqual(grammar.fields, ("b", "a"))
        self.assertEqual(grammar.kinds, ("root", "leaf", "node", "cut"))
        self.assertEqual(grammar.families, ("top", "low", "mid"))
        self.assertEqual(grammar.root, "top")
        self.assertEqual(grammar.family_of("node"), "mid")
        self.assertEqual(grammar.children_of("root"), ("low", "mid"))
        self.assertEqual(grammar.children_of("leaf"), ())
        self.assertEqual(grammar.kinds_of("top"), ("root", "cut"))
        self.assertEqual(grammar.kinds_of("low"), ("leaf",))
        self.assertEqual([grammar.kind_size(kind) for kind in grammar.kinds], [4, 1, 2, 1])
        self.assertEqual([grammar.least_size(family) for family in grammar.families], [1, 1, 2])

    def test_class_values(self):
        self.assertEqual((Grammar.MOST_FIELDS, Grammar.MOST_KINDS), (6, 8))
        self.assertEqual((Grammar.MOST_CHILDREN, Grammar.MOST_FAMILIES), (3, 3))

    def test_root(self):
        kinds = [("leaf", "low", []), ("node", "top", ["low"])]
        self.assertEqual(Grammar([], kinds).root, "low")
        self.assertEqual(Grammar([], kinds, root=None).root, "low")
        self.assertEqual(Grammar([], kinds, root="top").root, "top")
        self.assertEqual(Grammar([], kinds, root="top").families, ("low", "top"))
        with self.assertRaises(TypeError):
            Grammar([], kinds, "top")

    def test_unknown_names(self):
        grammar = expr_grammar()
        for ask in (grammar.family_of, grammar.children_of, grammar.kind_size):
            for name in ("expr", "nothing"):
                with self.assertRaises(UnknownName) as caught:
                    ask(name)
                self.assertEqual(caught.exception.name, name)
        for ask in (grammar.kinds_of, grammar.least_size):
            for name in ("leaf", "nothing"):
                with self.assertRaises(UnknownName) as caught:
                    ask(name)
                self.assertEqual(caught.exception.name, name)

    def test_lists_are_copied(self):
        fields, children = ["a"], ["x", "x"]
        kinds = [("leaf", "x", []), ("node", "x", children)]
        grammar = Grammar(fields, kinds)
        fields.append("b")
        children.pop()
        kinds.pop()
        self.assertEqual(grammar.fields, ("a",))
        self.assertEqual(grammar.kinds, ("leaf", "node"))
        self.assertEqual(grammar.children_of("node"), ("x", "x"))
        self.assertEqual(grammar.kind_size("node"), 3)

    def test_tuples_as_lists(self):
        grammar = Grammar(("a",), (("leaf", "x", ()), ("node", "x", ("x",))))
        self.assertEqual(grammar.children_of("node"), ("x",))

    def test_least_sizes_of_nested_families(self):
        kinds = [("big", "a", ["b"] * 3), ("mid", "b", ["c"] * 3), ("low", "c", []), ("more", "c", ["a", "c"])]
        grammar = Grammar([], kinds)
        self.assertEqual([grammar.kind_size(kind) for kind in grammar.kinds], [13, 4, 1, 15])
        self.assertEqual(grammar.least_size("a"), 13)

    def test_a_smaller_kind_stands_later(self):
        kinds = [("leaf", "z", []), ("wide", "y", ["z"] * 3), ("one", "x", ["y"]), ("dot", "y", [])]
        grammar = Grammar([], kinds)
        self.assertEqual([grammar.kind_size(kind) for kind in grammar.kinds], [1, 4, 2, 1])
        self.assertEqual([grammar.least_size(family) for family in "xyz"], [2, 1, 1])

    def test_least_sizes_against_all_trees(self):
        for seed in range(150):
            case, _ = random_case(seed)
            grammar = to_program(case).grammar
            for kind in grammar.kinds:
                size = grammar.kind_size(kind)
                if size <= 6:
                    family = grammar.family_of(kind)
                    sizes = [k for k in range(1, 7) if any(s[0] == kind for s in oracle.shapes(case, family, k))]
                    self.assertEqual(sizes[0], size)
            for family in grammar.families:
                self.assertEqual(grammar.least_size(family), min(map(grammar.kind_size, grammar.kinds_of(family))))


class Checks(unittest.TestCase):
    def refused(self, error, word, fields, kinds, **more):
        with self.assertRaises(error) as caught:
            Grammar(fields, kinds, **more)
        found = caught.exception
        self.assertEqual(found.limit if error is LimitExceeded else found.part, word)

    def test_fields(self):
        self.assertEqual(Grammar([], EXPR).fields, ())
        self.assertEqual(Grammar(SIX, EXPR).fields, tuple(SIX))
        self.refused(LimitExceeded, "fields", [*SIX, "g"], EXPR)
        self.refused(BadGrammar, "fields", ["a", "b", "a"], EXPR)
        self.refused(LimitExceeded, "fields", [*SIX, "a"], EXPR)

    def test_kinds(self):
        self.refused(BadGrammar, "kinds", [], [])
        self.refused(BadGrammar, "kinds", [], [("leaf", "x", []), ("leaf", "y", [])])
        self.assertEqual(len(Grammar([], leaves(8)).kinds), 8)
        self.refused(LimitExceeded, "kinds", [], leaves(9))
        self.refused(BadGrammar, "kinds", [], [*leaves(8), ("ka", "x", [])])

    def test_children(self):
        self.assertEqual(Grammar([], [("leaf", "x", []), ("node", "x", ["x"] * 3)]).kind_size("node"), 4)
        self.refused(LimitExceeded, "children", [], [("leaf", "x", []), ("node", "x", ["x"] * 4)])
        self.refused(BadGrammar, "children", [], [("leaf", "x", ["y"])])

    def test_families(self):
        kinds = [("ka", "a", []), ("kb", "b", []), ("kc", "c", [])]
        self.assertEqual(Grammar([], kinds).families, ("a", "b", "c"))
        self.refused(LimitExceeded, "families", [], [*kinds, ("kd", "d", [])])
        self.refused(BadGrammar, "children", [], [*kinds, ("kd", "c", ["d"])])

    def test_root(self):
        self.refused(BadGrammar, "root", [], [("leaf", "x", [])], root="leaf")

    def test_finite(self):
        self.refused(BadGrammar, "finite", [], [("node", "x", ["x"])])
        self.refused(BadGrammar, "finite", [], [("leaf", "x", []), ("ka", "y", ["z"]), ("kb", "z", ["y", "x"])])
        self.assertEqual(Grammar([], [("node", "x", ["y"]), ("leaf", "y", [])]).least_size("x"), 2)

    def test_order_of_the_rules(self):
        """Break the rules from the last to the first: each time the first broken one is told."""
        self.refused(BadGrammar, "finite", [], [("node", "x", ["x"])])
        self.refused(BadGrammar, "root", [], [("node", "x", ["x"])], root="y")
        self.refused(BadGrammar, "children", [], [("node", "x", ["y"])], root="y")
        four = [("node", "x", ["y"]), ("ka", "a", []), ("kb", "b", []), ("kc", "c", [])]
        self.refused(LimitExceeded, "families", [], four, root="y")
        self.refused(LimitExceeded, "children", [], [*four, ("kd", "x", ["y"] * 4)], root="y")
        nine = [*four, ("kd", "x", ["y"] * 4), *[(name, "d", []) for name in ("ke", "kf", "kg", "kh")]]
        self.refused(LimitExceeded, "kinds", [], nine, root="y")
        self.refused(BadGrammar, "kinds", [], [*nine, nine[0]], root="y")
        self.refused(BadGrammar, "fields", ["a", "a"], [*nine, nine[0]], root="y")
        self.refused(LimitExceeded, "fields", ["a"] * 7, [*nine, nine[0]], root="y")

    def test_random_grammars_are_finite_or_refused(self):
        chance = random.Random(5)
        refused = 0
        for _ in range(300):
            kinds = [
                ("k" + "abc"[k], "xyz"[k], [chance.choice("xyz") for _ in range(chance.randint(0, 2))])
                for k in range(3)
            ]
            case = oracle.Case([], kinds, {})
            # The least tree of three families with two children each has at most seven nodes.
            finite = all(any(oracle.shapes(case, family, size) for size in range(1, 8)) for family in "xyz")
            try:
                Grammar([], kinds)
                self.assertTrue(finite)
            except BadGrammar as error:
                self.assertEqual(error.part, "finite")
                self.assertFalse(finite)
                refused += 1
        self.assertGreater(refused, 50)


if __name__ == "__main__":
    unittest.main()
