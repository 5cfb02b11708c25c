import unittest

from fusewalks import traces
from fusewalks.errors import BadTree, LimitExceeded, UnknownName
from fusewalks.fusion import Fusion
from fusewalks.grammar import Grammar
from fusewalks.program import Program
from fusewalks.traces import Trace, run
from fusewalks.trees import Tree

from tests import oracle
from tests.samples import LINE, example, expr_grammar, line_program, line_tree


def pair(grammar):
    leaf = Tree(grammar, "leaf")
    return Tree(grammar, "pair", leaf, leaf)


class Runs(unittest.TestCase):
    def test_example(self):
        program = example()
        trace = run(program, ["up", "down"], pair(program.grammar))
        one, two, own = ((1,), 0, 0), ((2,), 0, 0), ((), 0, 2)
        events = [one, two, own, ((), 1, 0), ((), 1, 1)]
        self.assertEqual(list(trace), events)
        self.assertEqual(len(trace), 5)
        self.assertEqual(trace.reads(own), (((1,), "a", one), ((2,), "a", two)))
        self.assertEqual(trace.reads(one), ())
        self.assertEqual(trace.reads(((), 1, 0)), (((), "b", None),))
        self.assertEqual(trace.writes((), "a"), (own,))
        self.assertEqual(trace.writes((2,), "b"), (((), 1, 1),))
        self.assertEqual(trace.writes((), "b"), ())

    def test_what_did_not_happen(self):
        program = example()
        trace = run(program, ["up"], pair(program.grammar))
        self.assertEqual(trace.reads(((), 1, 0)), ())
        self.assertEqual(trace.reads(((9,), 0, 0)), ())
        self.assertEqual(trace.writes((9,), "a"), ())
        self.assertEqual(trace.writes((), "none"), ())

    def test_reads_come_before_the_write(self):
        program = line_program({"up": {"end": [("set", 0, "a", [(0, "a"), (0, "a")])]}})
        trace = run(program, ["up", "up"], line_tree(program.grammar, 1))
        first, second = ((), 0, 0), ((), 1, 0)
        self.assertEqual(trace.reads(first), (((), "a", None), ((), "a", None)))
        self.assertEqual(trace.reads(second), (((), "a", first), ((), "a", first)))
        self.assertEqual(trace.writes((), "a"), (first, second))

    def test_turns_count_the_visits_of_a_node(self):
        walks = {
            "up": {"link": [("call", 1, "down"), ("set", 0, "a", []), ("call", 1, "up")]},
            "down": {"link": [("set", 0, "b", [])], "end": [("set", 0, "b", []), ("set", 0, "a", [(0, "b")])]},
        }
        program = line_program(walks)
        trace = run(program, ["down", "up"], line_tree(program.grammar, 3))
        below = (1, 1)
        events = [((), 0, 0), ((1,), 0, 0), ((), 1, 1), (below, 0, 0), (below, 0, 1), ((1,), 1, 1)]
        self.assertEqual(list(trace), events)

    def test_a_visit_without_events_counts_as_a_turn(self):
        program = line_program({"up": {}, "down": {"end": [("set", 0, "a", [])]}})
        trace = run(program, ["up", "down"], line_tree(program.grammar, 1))
        self.assertEqual(list(trace), [((), 1, 0)])

    def test_a_call_runs_completely_before_the_next_statement(self):
        walks = {"up": {"link": [("call", 1, "up"), ("set", 0, "a", [])], "end": [("set", 0, "a", [])]}}
        program = line_program(walks)
        trace = run(program, ["up"], line_tree(program.grammar, 4))
        self.assertEqual([event[0] for event in trace], [(1, 1, 1), (1, 1), (1,), ()])

    def test_empty_row(self):
        program = example()
        trace = run(program, [], pair(program.grammar))
        self.assertEqual((len(trace), list(trace)), (0, []))

    def test_errors(self):
        grammar = Grammar(["a"], [*LINE, ("dot", "other", [])])
        program = Program(grammar, {"up": {}})
        wrong = Tree(grammar, "dot")
        with self.assertRaises(LimitExceeded) as caught:
            run(program, ["side"] * 7, wrong)
        self.assertEqual(caught.exception.limit, "row")
        with self.assertRaises(UnknownName) as caught:
            run(program, ["up", "side"], wrong)
        self.assertEqual(caught.exception.name, "side")
        for row in (["up"], []):
            with self.assertRaises(BadTree) as caught:
                run(program, row, wrong)
            self.assertEqual(caught.exception.path, ())


class Steps(unittest.TestCase):
    """A line of seven kinds on which the walk "up" executes exactly 40000 statements."""

    def setUp(self):
        many = {"ka": (5, 0), "kb": (3, 1), "kc": (5, 0), "kd": (4, 0), "ke": (6, 0), "kf": (3, 0)}
        kinds = [(name, "line", ["line"]) for name in many]
        up = {name: [("call", 1, "up")] * calls + [("set", 0, "a", [])] * sets for name, (calls, sets) in many.items()}
        up["end"] = [("set", 0, "a", [])] * 6
        walks = {"up": up, "none": {}, "mark": {"ka": [("set", 0, "a", [])]}, "ask": {"ka": [("call", 1, "none")]}}
        self.program = Program(Grammar(["a"], [*kinds, ("end", "line", [])]), walks)
        self.tree = Tree(self.program.grammar, "end")
        for name in reversed(many):
            self.tree = Tree(self.program.grammar, name, self.tree)

    def test_the_limit(self):
        self.assertEqual(traces.MOST_STEPS, 40000)
        shape = ("end", ())
        for name in ("kf", "ke", "kd", "kc", "kb", "ka"):
            shape = (name, (shape,))
        grammar = self.program.grammar
        walks = {"up": {kind: self.program.body("up", kind) for kind in grammar.kinds}}
        case = oracle.Case(["a"], [(kind, "line", grammar.children_of(kind)) for kind in grammar.kinds], walks)
        self.assertEqual(oracle.statements_run(case, ["up"], shape), 40000)

    def test_exactly_at_the_limit(self):
        for row in (["up"], ["none", "up", "none"]):
            trace = run(self.program, row, self.tree)
            self.assertEqual(len(trace), len(trace.writes((), "a")) + sum(
                len(trace.writes((1,) * depth, "a")) for depth in range(1, 7)
            ))
        self.assertEqual(len(run(self.program, ["mark"] * 6, self.tree)), 6)

    def test_one_beyond(self):
        for row in (["up", "mark"], ["up", "ask"], ["mark", "up"], ["ask", "up"], ["up", "up"]):
            with self.assertRaises(LimitExceeded) as caught:
                run(self.program, row, self.tree)
            self.assertEqual(caught.exception.limit, "steps")

    def test_endless_calls(self):
        walks = {"up": {"link": [("call", 1, "up")] * 6}}
        program = line_program(walks)
        with self.assertRaises(LimitExceeded):
            run(program, ["up"], line_tree(program.grammar, 50))

    def test_the_tree_is_checked_first(self):
        grammar = Grammar(["a"], [("link", "line", ["line"]), ("end", "line", []), ("wrap", "other", ["line"])])
        program = Program(grammar, {"up": {"link": [("call", 1, "up")] * 6, "wrap": [("call", 1, "up")] * 6}})
        with self.assertRaises(BadTree):
            run(program, ["up"], Tree(grammar, "wrap", line_tree(grammar, 40)))


class Comparing(unittest.TestCase):
    def traces(self, *bodies):
        """Return the trace of each body on a single node."""
        found = []
        for body in bodies:
            program = Program(Grammar(["a", "b", "c"], LINE), {"up": {"end": body}})
            found.append(run(program, ["up"], line_tree(program.grammar, 1)))
        return found

    def test_equal(self):
        body = [("set", 0, "a", [(0, "b")]), ("set", 0, "b", [])]
        one, two = self.traces(body, body)
        self.assertIs(one == two, True)
        self.assertIs(one != two, False)
        self.assertIs(one == "trace", False)

    def test_different_events(self):
        one, two = self.traces([("set", 0, "a", [])], [("set", 0, "a", []), ("set", 0, "b", [])])
        self.assertIs(one == two, False)
        self.assertIs(one == two.without("b"), False)

    def test_different_fields_written(self):
        one, two = self.traces([("set", 0, "a", [])], [("set", 0, "b", [])])
        self.assertIs(one == two, False)
        self.assertIs(one.without("a", "b") == two.without("a", "b"), True)

    def test_different_order_of_reads(self):
        one, two = self.traces([("set", 0, "a", [(0, "b"), (0, "c")])], [("set", 0, "a", [(0, "c"), (0, "b")])])
        self.assertIs(one == two, False)
        self.assertIs(one.without("b") == two.without("b"), True)

    def test_different_sources(self):
        before = [("set", 0, "b", []), ("set", 0, "a", [(0, "b")])]
        after = [("set", 0, "a", []), ("set", 0, "a", [(0, "b")])]
        one, two = self.traces(before, after)
        self.assertIs(one.without("a") == two.without("a"), False)

    def test_the_order_of_events_that_touch_different_fields(self):
        """The order of two events differs only between a plain and a fused run."""
        walks = {"up": {"pair": [("call", 1, "low"), ("set", 0, "b", [])]}, "low": {"leaf": [("set", 0, "a", [])]}}
        program = Program(expr_grammar(), walks)
        fusion = Fusion(program, ["up"])
        fusion[("pair", ("up",))] = [("set", 0, 1), ("call", 1)]
        tree = pair(program.grammar)
        plain, fused = run(program, ["up"], tree), fusion(tree)
        self.assertNotEqual(list(plain), list(fused))
        self.assertIs(plain == fused, True)

    def test_the_order_of_writes(self):
        walks = {"up": {"pair": [("set", 0, "a", []), ("set", 0, "a", [])]}}
        program = Program(expr_grammar(), walks)
        fusion = Fusion(program, ["up"])
        fusion[("pair", ("up",))] = [("set", 0, 1), ("set", 0, 0)]
        tree = pair(program.grammar)
        plain, fused = run(program, ["up"], tree), fusion(tree)
        self.assertIs(plain == fused, False)
        self.assertIs(plain.without("b") == fused.without("b"), False)
        self.assertIs(plain.without("a") == fused.without("a"), True)


class Without(unittest.TestCase):
    def test_without(self):
        program = example()
        trace = run(program, ["up", "down"], pair(program.grammar))
        less = trace.without("a", "none")
        self.assertIsInstance(less, Trace)
        self.assertEqual(list(less), list(trace))
        self.assertEqual(less.reads(((), 0, 2)), ())
        self.assertEqual(less.writes((), "a"), ())
        self.assertEqual(less.reads(((), 1, 0)), (((), "b", None),))
        self.assertEqual(less.writes((1,), "b"), (((), 1, 0),))
        self.assertEqual(len(trace.reads(((), 0, 2))), 2)
        self.assertIs(trace.without() == trace, True)
        self.assertIs(trace.without("none") == trace, True)
        self.assertIs(less == trace, False)


if __name__ == "__main__":
    unittest.main()
