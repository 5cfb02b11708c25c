import unittest

from fusewalks import batches
from fusewalks.batches import child_batches, reached, steps, unbounded
from fusewalks.errors import LimitExceeded, UnboundedBatches, UnknownName
from fusewalks.grammar import Grammar
from fusewalks.program import Program

from tests import oracle
from tests.samples import EXPR, LINE, example, line_program

SIX = ["p", "q", "r", "s", "t", "u"]


def calls(*names, child=1):
    return [("call", child, name) for name in names]


def all_pairs_program(more=()):
    """Return a program for which the row p, q reaches all 30 ordered pairs of two of six walks."""
    kinds = [("end", "x", []), ("turn", "x", ["x"]), ("swap", "x", ["x"]), *[kind for kind, _ in more]]
    walks = {}
    for at, name in enumerate(SIX):
        swapped = {"p": "q", "q": "p"}.get(name, name)
        walks[name] = {"turn": calls(SIX[(at + 1) % 6]), "swap": calls(swapped)}
        for (kind, _, _), bodies in more:
            walks[name][kind] = bodies.get(name, [])
    return Program(Grammar([], kinds), walks)


def crowded(last):
    """Return a program for which the row p has 30 pairs before the children of the kind "kd" are met again.

    These are the pair of the root, the one of q, q, 20 with one or two of the walks r, s, t, u, and 8 with four of
    them. The batches that follow are those of the children of "kd" at q, q: the body `last`, twice.
    """
    names = ["ka", "kb", "kc", "kd", "ke", "kf", "kg"]
    kinds = [("ka", "x", ["x", "y", "y"]), *[(name, "x", ["y"] * 3) for name in names[1:]], ("dot", "y", [])]
    words = [(one,) for one in "rstu"] + [(one, two) for one in "rstu" for two in "rstu"]
    places = [(name, child) for name in names for child in (1, 2, 3) if (name, child) != ("ka", 1)]
    walks = {name: {} for name in ["p", "q", "r", "s", "t", "u"]}
    walks["p"] = {name: [] for name in names}
    walks["q"] = {name: [] for name in names}
    walks["p"]["ka"] = calls("q", "q")
    for (name, child), word in zip(places, words):
        walks["p"][name] += calls(*word, child=child)
    for (name, child), word in zip(places[:8], words[4:]):
        walks["q"][name] += calls(*word, child=child)
    walks["q"]["kd"] = last
    # The family x is made finite by "kb", whose children are dots.
    return Program(Grammar([], kinds), walks)


class Steps(unittest.TestCase):
    def test_steps(self):
        program = example()
        found = list(steps(program, "pair", ["up", "down"]))
        self.assertEqual([step[:2] for step in found], [(0, 0), (0, 1), (0, 2), (1, 0), (1, 1), (1, 2), (1, 3)])
        self.assertEqual(found[2][2], program.body("up", "pair")[2])
        self.assertEqual(found[3][2], ("set", 1, "b", ((0, "b"),)))
        self.assertEqual(list(steps(program, "leaf", ("down", "up", "up"))), [
            (1, 0, ("set", 0, "a", ())),
            (2, 0, ("set", 0, "a", ())),
        ])

    def test_child_batches(self):
        program = example()
        self.assertEqual(child_batches(program, "pair", ["up", "down"]), (("up", "down"), ("up", "down")))
        self.assertEqual(child_batches(program, "pair", ("down",)), (("down",), ("down",)))
        self.assertEqual(child_batches(program, "leaf", ["up"]), ())

    def test_order_of_a_child_batch(self):
        up = [("call", 2, "down"), ("call", 1, "up"), ("call", 2, "up")]
        walks = {"up": {"pair": up}, "down": {"pair": calls("down")}}
        program = Program(Grammar([], EXPR), walks)
        self.assertEqual(child_batches(program, "pair", ["down", "up"]), (("down", "up"), ("down", "up")))
        self.assertEqual(child_batches(program, "pair", ["up", "down"]), (("up", "down"), ("down", "up")))
        self.assertEqual(child_batches(program, "pair", ["down"]), (("down",), ()))

    def test_empty_batch(self):
        program = example()
        self.assertEqual(list(steps(program, "pair", [])), [])
        self.assertEqual(child_batches(program, "pair", ()), ((), ()))

    def test_long_child_batches(self):
        program = line_program({"up": {"link": calls(*["up"] * 6)}})
        self.assertEqual(child_batches(program, "link", ["up"] * 6), (("up",) * 36,))

    def test_errors(self):
        program = example()
        for ask in (lambda kind, batch: list(steps(program, kind, batch)),
                    lambda kind, batch: child_batches(program, kind, batch)):
            with self.assertRaises(UnknownName) as caught:
                ask("nothing", ["side"] * 7)
            self.assertEqual(caught.exception.name, "nothing")
            with self.assertRaises(LimitExceeded) as caught:
                ask("leaf", ["side"] * 7)
            self.assertEqual(caught.exception.limit, "row")
            with self.assertRaises(UnknownName) as caught:
                ask("leaf", ["up", "side"])
            self.assertEqual(caught.exception.name, "side")

    def test_a_generator_raises_when_it_is_iterated(self):
        found = steps(example(), "nothing", ["up"])
        with self.assertRaises(UnknownName):
            next(found)


class Reached(unittest.TestCase):
    def limit(self, program, row):
        with self.assertRaises(LimitExceeded) as caught:
            reached(program, row)
        return caught.exception.limit

    def test_example(self):
        self.assertEqual(reached(example(), ["up", "down"]), [("expr", ("up", "down"))])

    def test_order(self):
        kinds = [("top", "x", ["y", "x"]), ("end", "x", []), ("low", "y", ["y"]), ("dot", "y", [])]
        walks = {
            "up": {"top": [("call", 2, "down"), ("call", 1, "up")], "low": calls("down")},
            "down": {"top": calls("down"), "low": calls("up")},
        }
        program = Program(Grammar([], kinds), walks)
        found = reached(program, ["up"])
        self.assertEqual(found, [("x", ("up",)), ("y", ("up",)), ("x", ("down",)), ("y", ("down",))])
        found.append("more")
        self.assertEqual(len(reached(program, ["up"])), 4)

    def test_root_family(self):
        grammar = Grammar([], [("low", "y", []), ("top", "x", ["y"])], root="x")
        program = Program(grammar, {"up": {"top": calls("up")}})
        self.assertEqual(reached(program, ["up"]), [("x", ("up",)), ("y", ("up",))])

    def test_empty_row(self):
        self.assertEqual(reached(example(), []), [])

    def test_unvisited_children_give_no_pair(self):
        program = line_program({"up": {}})
        self.assertEqual(reached(program, ["up", "up"]), [("line", ("up", "up"))])

    def test_errors_of_the_row(self):
        with self.assertRaises(UnknownName):
            reached(example(), ["side"])
        self.assertEqual(self.limit(example(), ["up"] * 7), "row")

    def test_batches_of_six_and_seven(self):
        walks = {"up": {"link": calls(*["down"] * 5)}, "down": {"link": calls("down")}, "mark": {"link": calls("up")}}
        program = line_program(walks)
        self.assertEqual(reached(program, ["up", "down"])[1], ("line", ("down",) * 6))
        self.assertEqual(self.limit(program, ["up", "down", "down"]), "batch")
        self.assertEqual(self.limit(program, ["mark", "down", "down"]), "batch")

    def test_thirty_pairs(self):
        self.assertEqual(batches.MOST_PAIRS, 30)
        found = reached(all_pairs_program(), ["p", "q"])
        self.assertEqual(len(found), 30)
        self.assertEqual(found[0], ("x", ("p", "q")))
        self.assertEqual(found[1:3], [("x", ("q", "r")), ("x", ("q", "p"))])

    def test_thirty_one_pairs(self):
        once = ("once", "x", ["x"])
        program = all_pairs_program([(once, {"p": calls("p")})])
        self.assertEqual(len(reached(program, ["p"])), 6)
        self.assertEqual(self.limit(program, ["p", "q"]), "pairs")

    def test_limits_at_the_thirtieth_pair(self):
        known = calls("r", "r")
        new = calls("r", "r", "s")
        long = calls(*["r"] * 4)
        self.assertEqual(len(reached(crowded(known), ["p"])), 30)
        self.assertEqual(self.limit(crowded(new), ["p"]), "pairs")
        # The batch of this child is too long, and its pair is the thirty-first: the batch is checked first.
        self.assertEqual(self.limit(crowded(long), ["p"]), "batch")

    def test_whichever_limit_comes_first(self):
        new = calls("r", "r", "s")
        long = [("call", 2, "r")] * 4
        self.assertEqual(self.limit(crowded([*new, *long[:3]]), ["p"]), "pairs")
        self.assertEqual(self.limit(crowded([("call", 1, "r")] * 2 + long), ["p"]), "batch")
        for last in ([*new, *long[:3]], [("call", 1, "r")] * 2 + long):
            case = case_of(crowded(last))
            self.assertEqual(self.limit(crowded(last), ["p"]), oracle.limit(case, ["p"]))

    def test_unbounded_comes_before_the_limits(self):
        walks = {"up": {"link": calls(*["up"] * 6)}}
        with self.assertRaises(UnboundedBatches) as caught:
            reached(line_program(walks), ["up", "up"])
        error = caught.exception
        self.assertEqual((error.way, error.first, error.second), ((), "up", "up"))
        self.assertEqual(set(error.loop), {("link", 1)})


def case_of(program):
    grammar = program.grammar
    kinds = [(kind, grammar.family_of(kind), grammar.children_of(kind)) for kind in grammar.kinds]
    walks = {walk: {kind: program.body(walk, kind) for kind in grammar.kinds} for walk in program.names}
    return oracle.Case(grammar.fields, kinds, walks, root=grammar.root)


class Unbounded(unittest.TestCase):
    def check(self, program, row):
        """Check a proof of point 16 by counting chains."""
        case = case_of(program)
        way, loop, first, second = unbounded(program, row)
        family = oracle.lead(case, way, case.root)
        self.assertEqual(oracle.lead(case, loop, family), family)
        self.assertGreater(len(loop), 0)
        self.assertTrue(any(first in oracle.chain_counts(case, way, walk) for walk in row))
        counts = oracle.chain_counts(case, loop, first)
        self.assertGreaterEqual(counts[first], 2 if first == second else 1)
        self.assertIn(second, counts)
        self.assertIn(second, oracle.chain_counts(case, loop, second))
        return way, loop, first, second

    def test_none(self):
        self.assertIsNone(unbounded(example(), ["up", "down"] * 3))
        self.assertIsNone(unbounded(example(), []))
        self.assertIsNone(unbounded(line_program({"up": {"link": calls("down", "down")}, "down": {}}), ["up"]))

    def test_a_walk_that_calls_itself_twice(self):
        program = line_program({"up": {"link": calls("up", "up")}})
        self.assertEqual(self.check(program, ["up"])[0], ())

    def test_two_walks_that_call_themselves(self):
        program = line_program({"up": {"link": calls("up", "down")}, "down": {"link": calls("down")}})
        self.assertEqual(self.check(program, ["up"]), ((), (("link", 1),), "up", "down"))
        self.assertIsNone(unbounded(program, ["down"] * 6))

    def test_calls_on_different_children_do_not_add_up(self):
        program = Program(Grammar([], EXPR), {"up": {"pair": [("call", 1, "up"), ("call", 2, "up")]}})
        self.assertIsNone(unbounded(program, ["up"]))

    def test_calls_at_different_kinds_do_not_add_up(self):
        kinds = [*LINE, ("other", "line", ["line"])]
        walks = {"up": {"link": calls("up", "down")}, "down": {"other": calls("down")}}
        self.assertIsNone(unbounded(Program(Grammar([], kinds), walks), ["up"]))
        walks["up"]["other"] = calls("up", "down")
        program = Program(Grammar([], kinds), walks)
        self.assertEqual(self.check(program, ["up"])[1], (("other", 1),))

    def test_way(self):
        kinds = [("top", "x", ["y"]), ("mid", "y", ["z"]), ("low", "z", ["z"]), ("dot", "z", [])]
        walks = {
            "up": {"top": calls("down")},
            "down": {"mid": calls("mark")},
            "mark": {"low": calls("mark", "mark")},
        }
        program = Program(Grammar([], kinds), walks)
        way, loop, first, second = self.check(program, ["up"])
        self.assertEqual((way, first, second), ((("top", 1), ("mid", 1)), "mark", "mark"))
        self.assertIsNone(unbounded(program, ["mark", "down"]))

    def test_walks_that_are_not_reached(self):
        program = line_program({"up": {"link": calls("up")}, "down": {"link": calls("down", "down")}})
        self.assertIsNone(unbounded(program, ["up"]))
        self.check(program, ["up", "down"])

    def test_loop_over_several_families(self):
        kinds = [("ka", "x", ["y"]), ("kb", "y", ["z"]), ("kc", "z", ["x"]), ("dot", "z", [])]
        walks = {"up": {"ka": calls("up"), "kb": calls("down", "up"), "kc": calls("up")}, "down": {"kc": calls("up")}}
        loop = self.check(Program(Grammar([], kinds), walks), ["up"])[1]
        self.assertEqual(len(loop), 3)

    def test_chains_that_part_early(self):
        """After they have parted, both chains go on by the first statement of each body."""
        walks = {
            "p": {"link": calls("r", "s")},
            "r": {"link": calls("p")},
            "s": {"link": calls("q")},
            "q": {"link": calls("t")},
            "t": {"link": calls("q")},
        }
        program = line_program(walks)
        for row in (["p"], ["r"]):
            self.assertEqual(len(self.check(program, row)[1]) % 2, 0)
        self.assertIsNone(unbounded(program, ["s", "q", "t"]))

    def test_long_loops(self):
        """A walk in a round of two and one in a round of three meet again after six moves only."""
        walks = {
            "p": {"link": calls("q", "r")},
            "q": {"link": calls("p")},
            "r": {"link": calls("s")},
            "s": {"link": calls("t")},
            "t": {"link": calls("r")},
        }
        loop = self.check(line_program(walks), ["p"])[1]
        self.assertEqual(len(loop) % 6, 0)
        self.assertLessEqual(len(loop), 2000)

    def test_errors(self):
        with self.assertRaises(LimitExceeded):
            unbounded(example(), ["up"] * 7)
        with self.assertRaises(UnknownName):
            unbounded(example(), ["up", "side"])


if __name__ == "__main__":
    unittest.main()
