import unittest

from fusewalks.errors import BadTree, DependencyCycle, LimitExceeded, UnboundedBatches, UnknownName
from fusewalks.fusion import Fusion, fuse
from fusewalks.grammar import Grammar
from fusewalks.plans import Plan, build, fewest_groups, fewest_ignored, perform, trial
from fusewalks.program import Program
from fusewalks.traces import run
from fusewalks.trees import Tree

from tests import oracle
from tests.samples import BAD, EXPR, example, expr_grammar, line_program, line_tree, ring, sample_tree

class Plans(unittest.TestCase):
    def test_groups(self):
        plan = Plan(["up", "down"], (), ["up"], [])
        self.assertEqual(list(plan), [("up", "down"), ("up",)])
        self.assertEqual(len(plan), 2)
        self.assertEqual(plan.walks, ("up", "down", "up"))
        self.assertEqual((list(Plan()), len(Plan()), Plan().walks), ([], 0, ()))
        self.assertEqual(list(Plan([], ())), [])

    def test_groups_are_copied(self):
        group = ["up"]
        plan = Plan(group, group)
        group.append("down")
        self.assertEqual(list(plan), [("up",), ("up",)])

    def test_names_are_not_checked(self):
        self.assertEqual(len(Plan(["nothing"] * 50).walks), 50)

    def test_contains(self):
        plan = Plan(["up", "down"], ["mark"])
        for name in ("up", "down", "mark"):
            self.assertIs(name in plan, True)
        for name in ("side", "u", ""):
            self.assertIs(name in plan, False)
        self.assertIs("up" in Plan(), False)

    def test_equality(self):
        self.assertIs(Plan(["up"], ["down"]) == Plan(("up",), [], ("down",)), True)
        self.assertIs(Plan(["up"], ["down"]) == Plan(["up", "down"]), False)
        self.assertIs(Plan(["up"], ["down"]) == Plan(["down"], ["up"]), False)
        self.assertIs(Plan() == Plan([]), True)
        self.assertIs(Plan() != Plan(), False)
        self.assertIs(Plan(["up"]) == [("up",)], False)

    def test_str(self):
        self.assertEqual(str(Plan(["up", "down"], ["up"])), "up|down + up")
        self.assertEqual(str(Plan(["up"])), "up")
        self.assertEqual(str(Plan()), "")

    def test_plus(self):
        one, two = Plan(["up", "down"]), Plan(["up"], ["mark"])
        self.assertEqual(list(one + two), [("up", "down"), ("up",), ("mark",)])
        self.assertEqual(one + Plan(), one)
        self.assertEqual(Plan() + one, one)
        self.assertEqual(Plan() + Plan(), Plan())
        self.assertEqual((len(one), len(two)), (1, 2))

    def test_or(self):
        one, two = Plan(["up", "down"]), Plan(["up"], ["mark"])
        self.assertEqual(list(one | two), [("up", "down", "up", "mark")])
        self.assertEqual(list(two | Plan()), [("up", "mark")])
        self.assertEqual(list(Plan() | two), [("up", "mark")])
        self.assertEqual(Plan() | Plan(), Plan())
        self.assertEqual(len(two), 2)

    def test_times(self):
        plan = Plan(["up", "down"], ["up"])
        self.assertEqual(list(plan * 2), [("up", "down"), ("up",)] * 2)
        self.assertEqual(list(3 * plan), [("up", "down"), ("up",)] * 3)
        self.assertEqual(plan * 0, Plan())
        self.assertEqual(0 * plan, Plan())
        self.assertEqual(1 * plan, plan)
        self.assertEqual((len(plan * 100), len(100 * plan)), (200, 200))
        self.assertEqual(Plan() * 5, Plan())

    def test_other_operands(self):
        for wrong in (lambda: Plan() + 1, lambda: Plan() | "up", lambda: Plan() * "up", lambda: Plan() <= 1):
            with self.assertRaises(TypeError):
                wrong()

    def test_as_fine(self):
        apart, together = Plan(["p"], ["q"], ["r"]), Plan(["p", "q", "r"])
        first, second = Plan(["p", "q"], ["r"]), Plan(["p"], ["q", "r"])
        for one, two, right in (
            (apart, together, True),
            (together, apart, False),
            (first, second, False),
            (second, first, False),
            (apart, first, True),
            (second, together, True),
            (first, first, True),
            (Plan(), Plan(), True),
            (Plan(), apart, False),
            (apart, Plan(), False),
            (first, Plan(["p", "q"], ["p"]), False),
            (Plan(["p"], ["q"]), together, False),
            (Plan(["q"], ["p"]), Plan(["p", "q"]), False),
        ):
            self.assertIs(one <= two, right)
            self.assertIs(two >= one, right)

    def test_as_fine_for_all_cuts(self):
        row = ("p", "q", "p", "p", "r")
        stretches = {}
        for groups in oracle.cuts(row):
            ends = [sum(map(len, groups[: k + 1])) for k in range(len(groups))]
            stretches[groups] = [(end - len(group), end) for end, group in zip(ends, groups)]
        for one, of_one in stretches.items():
            for two, of_two in stretches.items():
                within = all(any(c <= a and b <= d for c, d in of_two) for a, b in of_one)
                self.assertIs(Plan(*one) <= Plan(*two), within)

    def test_apart_and_together(self):
        self.assertEqual(list(Plan.apart("up", "down", "up")), [("up",), ("down",), ("up",)])
        self.assertEqual(list(Plan.together("up", "down", "up")), [("up", "down", "up")])
        self.assertEqual(list(Plan.apart("up")), list(Plan.together("up")))
        self.assertEqual(Plan.apart(), Plan())
        self.assertEqual(Plan.together(), Plan())
        self.assertIs(Plan.apart("up", "down") <= Plan.together("up", "down"), True)
        self.assertEqual(list(Plan().apart("up", "down")), [("up",), ("down",)])


class Build(unittest.TestCase):
    def test_build(self):
        program = example()
        fusions = build(program, Plan(["up", "down"], ["down"]))
        self.assertEqual([type(fusion) for fusion in fusions], [Fusion, Fusion])
        self.assertEqual([list(fusion)[0][1] for fusion in fusions], [("up", "down"), ("down",)])
        key = ("pair", ("up", "down"))
        self.assertEqual(fusions[0][key], fuse(program, ["up", "down"])[key])
        self.assertEqual(build(program, Plan()), [])

    def test_errors(self):
        program = line_program(BAD)
        with self.assertRaises(LimitExceeded) as caught:
            build(program, Plan(["bad"], ["side"]) * 4)
        self.assertEqual(caught.exception.limit, "row")
        with self.assertRaises(UnknownName) as caught:
            build(program, Plan(["bad"], ["low", "side"], ["wrong"]))
        self.assertEqual(caught.exception.name, "side")
        with self.assertRaises(DependencyCycle) as caught:
            build(program, Plan(["low"], ["bad"], ["grow"]))
        self.assertEqual(caught.exception.batch, ("bad",))
        with self.assertRaises(UnboundedBatches):
            build(program, Plan(["low"], ["grow"], ["bad"]))
        with self.assertRaises(LimitExceeded) as caught:
            build(program, Plan(["long"], ["long", "long"], ["grow"]))
        self.assertEqual(caught.exception.limit, "batch")


class Perform(unittest.TestCase):
    def test_turns_count_on(self):
        program = example()
        tree = sample_tree(program.grammar)
        trace = perform(program, Plan(["up", "down"], ["down", "up"]), tree)
        self.assertEqual(trace, run(program, ["up", "down", "down", "up"], tree))
        self.assertEqual(list(trace)[:9], list(fuse(program, ["up", "down"])(tree)))
        self.assertIn(((), 3, 2), list(trace))
        self.assertEqual(trace.reads(((), 2, 0)), (((), "b", None),))
        self.assertEqual(trace.writes((2,), "b"), (((), 1, 1), ((), 2, 1)))

    def test_turns_of_nodes_that_a_group_does_not_visit(self):
        walks = {"up": {"link": [("call", 1, "low")]}, "low": {"end": [("set", 0, "a", [])]}, "skip": {}}
        program = line_program(walks)
        tree = line_tree(program.grammar, 2)
        trace = perform(program, Plan(["skip", "up"], ["skip"], ["up", "skip"]), tree)
        self.assertEqual(list(trace), [((1,), 0, 0), ((1,), 1, 0)])

    def test_no_groups(self):
        program = example()
        self.assertEqual(len(perform(program, Plan(), sample_tree(program.grammar))), 0)

    def test_ignored_fields(self):
        program, batch = ring(3)
        program.ignore("b")
        grammar = program.grammar
        dot = Tree(grammar, "dot")
        tree = Tree(grammar, "top", dot, dot)
        trace = perform(program, Plan(batch, batch), tree)
        plain = run(program, batch + batch, tree)
        self.assertEqual(trace.without("b"), plain.without("b"))
        self.assertIs(trace == plain, False)

    def test_errors(self):
        grammar = Grammar(["a", "b"], [("end", "line", []), ("link", "line", ["line"]), ("dot", "other", [])])
        program = Program(grammar, BAD)
        wrong = Tree(grammar, "dot")
        with self.assertRaises(UnknownName):
            perform(program, Plan(["side"]), wrong)
        with self.assertRaises(DependencyCycle):
            perform(program, Plan(["bad"]), wrong)
        for plan in (Plan(["low"]), Plan()):
            with self.assertRaises(BadTree) as caught:
                perform(program, plan, wrong)
            self.assertEqual(caught.exception.path, ())

    def test_no_limit_of_steps(self):
        grammar = expr_grammar()
        sets = [("set", 0, "a", [])] * 4
        body = {"pair": [("call", 1, "up"), ("call", 2, "up"), *sets], "leaf": sets + sets[:2]}
        program = Program(grammar, {"up": body})
        tree = Tree(grammar, "leaf")
        for _ in range(8):
            tree = Tree(grammar, "pair", tree, tree)
        trace = perform(program, Plan(["up"], ["up", "up"], ["up"] * 3), tree)
        self.assertEqual(len(trace), 6 * (255 * 4 + 256 * 6))
        self.assertEqual(trace, run(program, ["up"] * 6, tree))


class FewestGroups(unittest.TestCase):
    def test_fusable_rows(self):
        program = example()
        self.assertEqual(fewest_groups(program, ["up", "down"]), Plan(["up", "down"]))
        self.assertEqual(fewest_groups(program, []), Plan())
        self.assertEqual(fewest_groups(program, ("up",)), Plan(["up"]))

    def test_the_first_groups_are_the_longest(self):
        program = example()
        self.assertFalse(trial(program, ["up", "up"]))
        self.assertFalse(trial(program, ["up", "down", "up"]))
        self.assertTrue(trial(program, ["down", "up"]))
        self.assertEqual(str(fewest_groups(program, ["up", "down", "up"])), "up|down + up")
        self.assertEqual(str(fewest_groups(program, ["down", "up", "down", "up"])), "down|up + down|up")
        self.assertEqual(str(fewest_groups(program, ["up"] * 3)), "up + up + up")

    def test_a_longer_first_group_may_cost_a_group(self):
        """The row r, s reaches 31 pairs and cannot be fused, but q, r, s can: together they call all six walks.

        The walks that q, r and s call on a child of the root are p, q, r, s, t, u, cut at different places. Below,
        each of the six goes on with the next one. With p a batch of q, r has seven walks.
        """
        names = ["p", "q", "r", "s", "t", "u"]
        kinds = [("ta", "x", ["y"] * 3), ("tb", "x", ["y"] * 2), ("turn", "y", ["y"]), ("dot", "y", [])]
        walks = {name: {"turn": [("call", 1, after)]} for name, after in zip(names, names[1:] + names[:1])}
        walks["p"]["ta"] = [("call", 1, "p")]
        cuts = [("ta", 1, 0, "r"), ("ta", 2, 1, "s"), ("ta", 3, 5, "s"), ("tb", 1, 2, "r"), ("tb", 2, 3, "s")]
        for kind, child, cut, name in cuts:
            walks["q"].setdefault(kind, []).extend(("call", child, called) for called in names[:cut])
            walks[name].setdefault(kind, []).extend(("call", child, called) for called in names[cut:])
        program = Program(Grammar([], kinds), walks)
        self.assertEqual(len(fuse(program, ["p", "q"])), 2 + 24 * 2)
        with self.assertRaises(LimitExceeded) as caught:
            fuse(program, ["r", "s"])
        self.assertEqual(caught.exception.limit, "pairs")
        with self.assertRaises(LimitExceeded) as caught:
            fuse(program, ["p", "q", "r"])
        self.assertEqual(caught.exception.limit, "batch")
        self.assertEqual(str(fewest_groups(program, ["p", "q", "r", "s"])), "p + q|r|s")
        self.assertEqual(str(fewest_groups(program, ["p", "q", "r"])), "p|q + r")

    def test_rows_beyond_the_limits_are_cut(self):
        program = line_program(BAD)
        self.assertEqual(fewest_groups(program, ["long"] * 3), Plan(["long"], ["long"], ["long"]))

    def test_errors(self):
        program = line_program(BAD)
        with self.assertRaises(LimitExceeded) as caught:
            fewest_groups(program, ["side"] * 7)
        self.assertEqual(caught.exception.limit, "row")
        with self.assertRaises(UnknownName):
            fewest_groups(program, ["bad", "side"])
        with self.assertRaises(DependencyCycle) as caught:
            fewest_groups(program, ["low", "bad", "grow"])
        self.assertEqual(caught.exception.batch, ("bad",))
        with self.assertRaises(UnboundedBatches):
            fewest_groups(program, ["low", "grow", "bad"])


class Trials(unittest.TestCase):
    def test_trial(self):
        program, batch = ring(3)
        self.assertIs(trial(program, batch), False)
        self.assertIs(trial(program, batch, "b"), True)
        self.assertIs(trial(program, list(batch), "f", "a", "f"), True)
        self.assertIs(trial(program, batch, "d", "e", "f"), False)
        self.assertIs(trial(program, [], "b"), True)

    def test_the_same_fields_are_ignored_afterwards(self):
        program, batch = ring(3)
        program.ignore("e", "f")
        self.assertIs(trial(program, batch, "d"), False)
        self.assertIs(trial(program, batch, "b"), True)
        with self.assertRaises(UnknownName):
            trial(program, batch, "b", "none")
        with self.assertRaises(LimitExceeded):
            trial(program, ["one"] * 7, "b")
        self.assertEqual(program.ignored, ("e", "f"))

    def test_ignored_fields_count_in_addition(self):
        program, batch = ring(3)
        program.ignore("b")
        self.assertIs(trial(program, batch), True)

    def test_errors(self):
        program = line_program(BAD)
        with self.assertRaises(UnknownName) as caught:
            trial(program, ["side"] * 7, "a", "none", "more")
        self.assertEqual(caught.exception.name, "none")
        with self.assertRaises(LimitExceeded) as caught:
            trial(program, ["long", "long"], "a")
        self.assertEqual(caught.exception.limit, "batch")
        with self.assertRaises(UnboundedBatches):
            trial(program, ["grow"], "a")
        with self.assertRaises(UnknownName):
            trial(program, ["side"])
        self.assertEqual(program.ignored, ())


class FewestIgnored(unittest.TestCase):
    def test_none_is_needed(self):
        self.assertEqual(fewest_ignored(example(), ["up", "down"]), ())
        self.assertEqual(fewest_ignored(example(), []), ())
        self.assertEqual(fewest_ignored(Program(Grammar([], EXPR), {"up": {}}), ["up"]), ())

    def test_the_first_of_several(self):
        program, batch = ring(3)
        # Without a, b or c one dependency of the cycle is missing.
        self.assertEqual(fewest_ignored(program, batch), ("a",))

    def test_fields_that_are_ignored_already_are_not_returned(self):
        program, batch = ring(3)
        program.ignore("a")
        self.assertEqual(fewest_ignored(program, batch), ())
        self.assertEqual(program.ignored, ("a",))

    def test_several_fields(self):
        """Each of two walks has a cycle of its own, of a call and a set, over one field."""
        body = {
            "one": {"link": [("call", 1, "low"), ("set", 0, "f", [(1, "d")]), ("call", 1, "low")]},
            "low": {"end": [("set", 0, "d", [])], "link": [("set", 0, "e", [(0, "f")])]},
        }
        program = line_program(body, fields="abcdef")
        self.assertEqual(fewest_ignored(program, ["one"]), ("d",))
        body["two"] = {"link": [("call", 1, "most"), ("set", 0, "f", [(1, "b")]), ("call", 1, "most")]}
        body["most"] = {"end": [("set", 0, "b", [])]}
        program = line_program(body, fields="abcdef")
        self.assertEqual(fewest_ignored(program, ["one", "two"]), ("b", "d"))
        self.assertEqual(program.ignored, ())

    def test_errors(self):
        program = line_program(BAD)
        program.ignore("a")
        with self.assertRaises(UnboundedBatches):
            fewest_ignored(program, ["grow"])
        with self.assertRaises(LimitExceeded):
            fewest_ignored(program, ["long", "long"])
        with self.assertRaises(UnknownName):
            fewest_ignored(program, ["side"])
        self.assertEqual(program.ignored, ("a",))


if __name__ == "__main__":
    unittest.main()
