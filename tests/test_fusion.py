import unittest

from fusewalks.dependencies import dependencies, items_of, reasons
from fusewalks.errors import (
    BadSchedule,
    BadTree,
    DependencyCycle,
    LimitExceeded,
    NotReached,
    UnboundedBatches,
    UnknownName,
)
from fusewalks.fusion import Fault, Fusion, fuse, smallest_tree
from fusewalks.grammar import Grammar
from fusewalks.program import Program
from fusewalks.traces import run
from fusewalks.trees import Tree

from tests.samples import EXAMPLE, EXPR, example, expr_grammar, line_program, line_tree, ring, sample_tree

BOTH = ("up", "down")
KEY = ("pair", BOTH)
LEAST = [("set", 1, 0), ("call", 1), ("set", 1, 1), ("call", 2), ("set", 0, 2)]
LISTED = [("call", 1), ("call", 2), ("set", 0, 2), ("set", 1, 0), ("set", 1, 1)]


class Keys(unittest.TestCase):
    def test_example(self):
        fusion = Fusion(example(), ["up", "down"])
        self.assertEqual(list(fusion), [("leaf", BOTH), KEY])
        self.assertEqual(len(fusion), 2)
        self.assertIs(KEY in fusion, True)
        for key in (("pair", ("up",)), ("expr", BOTH), ("pair", ()), ("pair", ("down", "up"))):
            self.assertIs(key in fusion, False)

    def test_order(self):
        kinds = [("top", "x", ["y"]), ("dot", "y", []), ("end", "x", []), ("low", "y", ["x"])]
        walks = {"up": {"top": [("call", 1, "down")], "low": [("call", 1, "up")]}, "down": {}}
        fusion = Fusion(Program(Grammar([], kinds), walks), ["up"])
        self.assertEqual(list(fusion), [("top", ("up",)), ("end", ("up",)), ("dot", ("down",)), ("low", ("down",))])

    def test_empty_row(self):
        fusion = Fusion(example(), [])
        self.assertEqual((list(fusion), len(fusion), fusion.listing()), ([], 0, []))
        self.assertIsNone(fusion.arrange())
        self.assertIsNone(fusion.fault())
        self.assertEqual(len(fuse(example(), ())), 0)

    def test_errors_of_reached(self):
        doubled = line_program({"up": {"link": [("call", 1, "up")] * 2}})
        long = line_program({"up": {"link": [("call", 1, "down")] * 4}, "down": {}})
        for make in (Fusion, fuse):
            with self.assertRaises(LimitExceeded) as caught:
                make(example(), ["side"] * 7)
            self.assertEqual(caught.exception.limit, "row")
            with self.assertRaises(UnknownName):
                make(example(), ["side"])
            with self.assertRaises(UnboundedBatches):
                make(doubled, ["up"])
            with self.assertRaises(LimitExceeded) as caught:
                make(long, ["up", "up"])
            self.assertEqual(caught.exception.limit, "batch")


class Schedules(unittest.TestCase):
    def setUp(self):
        self.program = example()
        self.fusion = Fusion(self.program, ["up", "down"])

    def test_listed_order_at_first(self):
        self.assertEqual(self.fusion[KEY], LISTED)
        self.assertEqual(self.fusion[("leaf", BOTH)], [("set", 0, 0)])

    def test_the_schedule_is_copied(self):
        self.fusion[KEY].clear()
        self.assertEqual(self.fusion[KEY], LISTED)
        given = list(LEAST)
        self.fusion[KEY] = given
        given.reverse()
        self.assertEqual(self.fusion[KEY], LEAST)
        self.fusion.reorder("pair", BOTH, given)
        given.clear()
        self.assertEqual(self.fusion[KEY], LEAST[::-1])

    def test_the_row_is_copied(self):
        row = ["up", "down"]
        fusion = Fusion(self.program, row)
        row.clear()
        self.assertEqual(len(fusion(sample_tree(self.program.grammar))), 9)

    def test_assigned(self):
        self.fusion[KEY] = tuple(LEAST)
        self.assertEqual(self.fusion[KEY], LEAST)
        self.assertIsInstance(self.fusion[KEY], list)
        self.fusion[("leaf", BOTH)] = [("set", 0, 0)]
        self.assertIsNone(self.fusion.reorder("pair", BOTH, LISTED))
        self.assertEqual(self.fusion[KEY], LISTED)

    def test_not_reached(self):
        for key in (("pair", ("up",)), ("expr", BOTH), ("none", ()), ("leaf", ())):
            with self.assertRaises(NotReached) as caught:
                self.fusion[key]
            self.assertEqual((caught.exception.kind, caught.exception.batch), key)
            with self.assertRaises(NotReached) as caught:
                self.fusion[key] = ["wrong"]
            self.assertEqual((caught.exception.kind, caught.exception.batch), key)
            with self.assertRaises(NotReached):
                self.fusion.reorder(*key, [])

    def test_bad_schedules(self):
        bad = [
            [],
            LEAST[:-1],
            [*LEAST, ("call", 1)],
            [*LEAST[:-1], ("call", 1)],
            [*LEAST[:-1], ("set", 1, 2)],
            [*LEAST, ("call", 3)],
            [*LEAST, LEAST[0]],
        ]
        for schedule in bad:
            with self.assertRaises(BadSchedule) as caught:
                self.fusion[KEY] = schedule
            self.assertEqual((caught.exception.kind, caught.exception.batch), KEY)
            with self.assertRaises(BadSchedule):
                self.fusion.reorder("pair", BOTH, schedule)
            self.assertEqual(self.fusion[KEY], LISTED)
        with self.assertRaises(BadSchedule):
            self.fusion[("leaf", BOTH)] = []

    def test_a_kind_without_items(self):
        fusion = Fusion(self.program, ["down"])
        self.assertEqual(fusion[("leaf", ("down",))], [])
        fusion[("leaf", ("down",))] = []
        with self.assertRaises(BadSchedule):
            fusion[("leaf", ("down",))] = [("set", 0, 0)]

    def test_arrange(self):
        self.assertIsNone(self.fusion.arrange())
        self.assertEqual(self.fusion[KEY], LEAST)
        self.assertEqual(fuse(self.program, BOTH)[KEY], LEAST)

    def test_arrange_uses_the_fields_that_are_ignored_then(self):
        self.program.ignore("a", "b")
        self.fusion.arrange()
        self.assertEqual(self.fusion[KEY], LISTED)
        self.program.ignore("a")
        self.fusion.arrange()
        self.assertEqual(self.fusion[KEY], [("set", 0, 2), ("set", 1, 0), ("call", 1), ("set", 1, 1), ("call", 2)])

    def test_example_of_the_document(self):
        program = Program(expr_grammar(), EXAMPLE)
        self.assertEqual(fuse(program, ["up", "down"])[("pair", ("up", "down"))], LEAST)


class Cycles(unittest.TestCase):
    def test_arrange_leaves_all_schedules(self):
        program, batch = ring(4)
        fusion = Fusion(program, batch)
        for key in fusion:
            fusion[key] = fusion[key][::-1]
        before = {key: fusion[key] for key in fusion}
        with self.assertRaises(DependencyCycle) as caught:
            fusion.arrange()
        self.assertEqual({key: fusion[key] for key in fusion}, before)
        error = caught.exception
        self.assertEqual((error.kind, error.batch, len(error.cycle)), ("top", batch, 4))
        with program.ignoring("b"):
            fusion.arrange()
        self.assertEqual(fusion[("top", batch)], items_of(program, "top", batch))

    def test_the_first_key_with_a_cycle(self):
        kinds = [("end", "x", []), ("fine", "x", ["x"]), ("bad", "x", ["x"]), ("more", "x", ["x"])]
        sets = [("call", 1, "low"), ("set", 0, "b", [(1, "a")]), ("call", 1, "low")]
        walks = {
            "up": {"fine": [("call", 1, "low"), ("set", 0, "b", [(1, "a")])], "bad": sets, "more": sets},
            "low": {"end": [("set", 0, "a", [])]},
        }
        program = Program(Grammar(["a", "b"], kinds), walks)
        with self.assertRaises(DependencyCycle) as caught:
            fuse(program, ["up"])
        error = caught.exception
        self.assertEqual((error.kind, error.batch), ("bad", ("up",)))
        self.assertEqual(set(error.cycle), {("call", 1), ("set", 0, 1)})

    def test_the_batch_of_the_first_key_with_a_cycle(self):
        walks = {
            "up": {"link": [("call", 1, "down")]},
            "down": {"link": [("call", 1, "low"), ("set", 0, "b", [(1, "a")]), ("call", 1, "low")]},
            "low": {"end": [("set", 0, "a", [])]},
        }
        program = line_program(walks)
        with self.assertRaises(DependencyCycle) as caught:
            fuse(program, ["up"])
        self.assertEqual((caught.exception.kind, caught.exception.batch), ("link", ("down",)))


class Runs(unittest.TestCase):
    def test_example(self):
        program = example()
        fusion = fuse(program, ["up", "down"])
        tree = sample_tree(program.grammar)
        trace = fusion(tree)
        self.assertEqual(list(trace), [
            ((), 1, 0),
            ((1,), 0, 0),
            ((), 1, 1),
            ((2,), 1, 0),
            ((2, 1), 0, 0),
            ((2,), 1, 1),
            ((2, 2), 0, 0),
            ((2,), 0, 2),
            ((), 0, 2),
        ])
        self.assertEqual(trace, run(program, ["up", "down"], tree))
        self.assertEqual(list(fusion.visits(tree)), [(), (1,), (2,), (2, 1), (2, 2)])

    def test_visits_follow_the_schedules(self):
        program = example()
        fusion = fuse(program, ["up"])
        fusion[("pair", ("up",))] = [("call", 2), ("set", 0, 2), ("call", 1)]
        self.assertEqual(list(fusion.visits(sample_tree(program.grammar))), [(), (2,), (2, 2), (2, 1), (1,)])

    def test_children_that_are_not_called_are_not_visited(self):
        program = Program(expr_grammar(), {"up": {"pair": [("call", 2, "up")]}})
        self.assertEqual(list(fuse(program, ["up"]).visits(sample_tree(program.grammar))), [(), (2,), (2, 2)])

    def test_empty_row(self):
        program = example()
        fusion = fuse(program, [])
        tree = sample_tree(program.grammar)
        self.assertEqual(len(fusion(tree)), 0)
        self.assertEqual(list(fusion.visits(tree)), [])

    def test_wrong_family(self):
        grammar = Grammar(["a"], [*EXPR, ("dot", "other", [])])
        program = Program(grammar, {"up": {}})
        wrong = Tree(grammar, "dot")
        for row in (["up"], []):
            fusion = fuse(program, row)
            with self.assertRaises(BadTree) as caught:
                fusion(wrong)
            self.assertEqual(caught.exception.path, ())
            found = fusion.visits(wrong)
            with self.assertRaises(BadTree) as caught:
                next(found)
            self.assertEqual(caught.exception.path, ())

    def test_no_limit_of_steps(self):
        walks = {"up": {"link": [("set", 0, "a", [])] * 5 + [("call", 1, "up")]}}
        program = line_program(walks)
        tree = line_tree(program.grammar, 50)
        self.assertEqual(len(fuse(program, ["up"] * 6)(tree)), 5 * 6 * 49)

    def test_a_full_tree(self):
        program = example()

        def full(many):
            if many == 1:
                return Tree(program.grammar, "leaf")
            child = full(many // 2)
            return Tree(program.grammar, "pair", child, child)

        tree = full(511)
        fusion = fuse(program, ["up", "down"])
        self.assertEqual(fusion(tree), run(program, ["up", "down"], tree))
        visited = list(fusion.visits(tree))
        self.assertEqual((len(visited), len(set(visited))), (511, 511))


class Faults(unittest.TestCase):
    def test_none(self):
        program = example()
        fusion = fuse(program, ["up", "down"])
        self.assertIsNone(fusion.fault())
        fusion[KEY] = [("set", 1, 1), ("set", 1, 0), ("call", 2), ("call", 1), ("set", 0, 2)]
        self.assertIsNone(fusion.fault())

    def test_fault(self):
        program = example()
        fusion = Fusion(program, ["up", "down"])
        fault = fusion.fault()
        self.assertIsInstance(fault, Fault)
        self.assertEqual((fault.path, fault.kind, fault.batch), ((), "pair", BOTH))
        self.assertIn((fault.earlier, fault.later), [(("set", 1, 0), ("call", 1)), (("set", 1, 1), ("call", 2))])
        # A pair reads b of itself; a leaf does not. So a child of the root must be a pair.
        self.assertEqual(fault.tree.size, 5)
        clash = (fault.first, fault.second, fault.place, fault.field)
        self.assertIn(clash, list(reasons(program, "pair", BOTH, fault.earlier, fault.later)))

    def test_fault_uses_the_fields_that_are_ignored_then(self):
        program = example()
        fusion = Fusion(program, ["up", "down"])
        with program.ignoring("b"):
            self.assertIsNone(fusion.fault())
        self.assertEqual(fusion.fault().field, "b")

    def test_fault_deep_in_a_tree(self):
        walks = {
            "up": {"link": [("call", 1, "down")]},
            "down": {"link": [("call", 1, "low")]},
            "low": {"link": [("set", 0, "a", []), ("set", 0, "a", [])]},
        }
        program = line_program(walks)
        fusion = fuse(program, ["up"])
        fusion[("link", ("low",))] = [("set", 0, 1), ("set", 0, 0)]
        fault = fusion.fault()
        self.assertEqual((fault.path, fault.kind, fault.batch), ((1, 1), "link", ("low",)))
        self.assertEqual(fault.tree, line_tree(program.grammar, 4))
        self.assertEqual((fault.earlier, fault.later), (("set", 0, 0), ("set", 0, 1)))
        self.assertEqual((fault.first, fault.second), ((0, "link", 0, 0), (0, "link", 0, 1)))
        self.assertEqual((fault.place, fault.field), (0, "a"))

    def test_a_smaller_fault_at_a_later_key(self):
        """The first key shows its fault in a tree of five nodes, a later one in a tree of two."""
        kinds = [("top", "x", ["y"]), ("end", "y", []), ("big", "y", ["y", "y", "y"])]
        walks = {
            "up": {"top": [("call", 1, "low"), ("set", 0, "b", [(1, "a")])]},
            "low": {"big": [("set", 0, "a", [])], "end": [("set", 0, "b", []), ("set", 0, "b", [])]},
        }
        program = Program(Grammar(["a", "b"], kinds), walks)
        fusion = fuse(program, ["up"])
        fusion[("top", ("up",))] = [("set", 0, 1), ("call", 1)]
        self.assertEqual(fusion.fault().tree.size, 5)
        fusion[("end", ("low",))] = [("set", 0, 1), ("set", 0, 0)]
        fault = fusion.fault()
        self.assertEqual((fault.tree.size, fault.path, fault.kind), (2, (1,), "end"))

    def test_fault_changes_nothing(self):
        program = example()
        fusion = Fusion(program, ["up", "down"])
        fusion.fault()
        self.assertEqual(fusion[KEY], LISTED)
        self.assertEqual(program.ignored, ())


def detour():
    """Return a program whose walk "last" is called at once by "wide", or by a smaller tree of three kinds "one"."""
    kinds = [
        ("wide", "x", ["x", "y", "y"]),
        ("one", "x", ["x"]),
        ("end", "x", []),
        ("dot", "y", ["z", "z", "z"]),
        ("tip", "z", []),
    ]
    twice = [("set", 0, "a", []), ("set", 0, "a", [])]
    walks = {
        "up": {"wide": [("call", 1, "last"), *twice], "one": [("call", 1, "down")]},
        "down": {"one": [("call", 1, "side")]},
        "side": {"one": [("call", 1, "last")]},
        "last": {"end": twice, "one": [("call", 1, "deep")]},
        "deep": {"end": twice},
    }
    return Program(Grammar(["a"], kinds), walks)


class SmallestTrees(unittest.TestCase):
    def test_example(self):
        program = example()
        first, second = (1, "leaf", 0, 0), (0, "pair", 0, 2)
        tree, path = smallest_tree(program, ["up", "down"], "pair", list(BOTH), first, second)
        self.assertEqual((tree.size, path), (3, ()))
        tree, path = smallest_tree(program, BOTH, "pair", BOTH, (1, "pair", 0, 2), second)
        self.assertEqual((tree.size, path, tree[(1,)].kind), (5, (), "pair"))

    def test_siblings_count(self):
        kinds = [
            ("top", "x", ["y", "z"]),
            ("end", "x", []),
            ("dot", "y", []),
            ("wide", "y", ["z", "z", "z"]),
            ("low", "z", ["x"]),
            ("tip", "z", ["y"]),
        ]
        walks = {
            "up": {"top": [("call", 1, "last"), ("call", 2, "side")]},
            "last": {"wide": [("call", 1, "last")], "tip": [("set", 0, "a", []), ("set", 0, "a", [])]},
            "side": {"tip": [("call", 1, "last")], "low": [("call", 1, "up")]},
        }
        program = Program(Grammar(["a"], kinds), walks)
        first, second = (0, "tip", 0, 0), (0, "tip", 0, 1)
        tree, path = smallest_tree(program, ["up"], "tip", ("last",), first, second)
        # A tree of the family z has at least 2 nodes, so top(wide(tip(dot), z, z), z) has 10.
        self.assertEqual((tree.size, path, tree[path].kind), (10, (1, 1), "tip"))

    def test_the_shortest_way_is_not_always_the_smallest(self):
        program = detour()
        events = ((0, "end", 0, 0), (0, "end", 0, 1))
        # By "wide" the node with "last" is the root's child, but the root's other children have 4 nodes each.
        tree, path = smallest_tree(program, ["up"], "end", ("last",), *events)
        self.assertEqual((tree.size, path), (4, (1, 1, 1)))
        tree, path = smallest_tree(program, ["up"], "end", ("deep",), *events)
        self.assertEqual((tree.size, path), (5, (1, 1, 1, 1)))

    def test_the_smallest_fault_is_found_by_the_smallest_way(self):
        program = detour()
        fusion = fuse(program, ["up"])
        for key in (("wide", ("up",)), ("end", ("deep",))):
            fusion[key] = fusion[key][::-1]
        fault = fusion.fault()
        self.assertEqual((fault.tree.size, fault.path, fault.batch), (5, (1, 1, 1, 1), ("deep",)))

    def test_errors(self):
        program = example()
        events = ((1, "leaf", 0, 0), (0, "pair", 0, 2))
        with self.assertRaises(UnknownName):
            smallest_tree(program, ["side"], "none", [], *events)
        with self.assertRaises(LimitExceeded):
            smallest_tree(program, ["up"] * 7, "none", [], *events)
        doubled = line_program({"up": {"link": [("call", 1, "up")] * 2}})
        with self.assertRaises(UnboundedBatches):
            smallest_tree(doubled, ["up"], "none", [], *events)
        wrong = [
            ("none", BOTH),
            ("expr", BOTH),
            ("pair", ("up",)),
            ("pair", ("down", "up")),
            ("pair", ()),
            ("pair", ("side",)),
            ("leaf", ("up",) * 9),
        ]
        for kind, batch in wrong:
            with self.assertRaises(NotReached) as caught:
                smallest_tree(program, ["up", "down"], kind, list(batch), *events)
            self.assertEqual((caught.exception.kind, caught.exception.batch), (kind, batch))

    def test_kinds_of_the_wrong_family(self):
        kinds = [("top", "x", ["y"]), ("dot", "y", [])]
        program = Program(Grammar(["a"], kinds), {"up": {"top": [("call", 1, "low")]}, "low": {}})
        for kind, batch in (("top", ("low",)), ("dot", ("up",))):
            with self.assertRaises(NotReached):
                smallest_tree(program, ["up"], kind, batch, (0, kind, 0, 0), (0, kind, 0, 1))


class Listings(unittest.TestCase):
    def test_example(self):
        self.assertEqual(fuse(example(), ["up", "down"]).listing(), [
            "leaf [up, down]",
            "  1 up.0           a = f()",
            "pair [up, down]",
            "  1 down.0         1.b = f(b)",
            "  2 call 1         up, down",
            "  3 down.1         2.b = f(b)",
            "  4 call 2         up, down",
            "  5 up.2           a = f(1.a, 2.a)",
        ])

    def test_kinds_without_items_and_long_names(self):
        name = "abcdefghijkl"
        walks = {name: {"link": [("set", 1, name, [(0, name), (1, name)]), ("call", 1, name)]}}
        program = line_program(walks, fields=[name])
        self.assertEqual(fuse(program, [name]).listing(), [
            f"end [{name}]",
            f"link [{name}]",
            f"  1 {name}.0 1.{name} = f({name}, 1.{name})",
            f"  2 call 1         {name}",
        ])

    def test_many_items(self):
        body = [("set", 0, "a", [])] * 6
        program = line_program({"up": {"end": body}})
        lines = fuse(program, ["up", "up"]).listing()
        self.assertEqual(lines[0], "end [up, up]")
        self.assertEqual(lines[9], "  9 up.2           a = f()")
        self.assertEqual(lines[10], " 10 up.3           a = f()")

    def test_batches_of_different_children(self):
        walks = {"up": {"pair": [("call", 1, "up"), ("call", 2, "down"), ("call", 2, "up")]}, "down": {}}
        lines = fuse(Program(expr_grammar(), walks), ["up"]).listing()
        self.assertEqual(lines[1:4], ["pair [up]", "  1 call 1         up", "  2 call 2         down, up"])

    def test_listing_shows_the_present_schedules(self):
        fusion = Fusion(example(), ["up", "down"])
        fusion.listing().clear()
        self.assertEqual(fusion.listing()[3], "  1 call 1         up, down")


class Kept(unittest.TestCase):
    def test_schedules_stay_when_fields_are_ignored(self):
        program = example()
        fusion = fuse(program, ["up", "down"])
        program.ignore("a", "b")
        self.assertEqual(fusion[KEY], LEAST)
        self.assertEqual(dependencies(program, "pair", BOTH), [])

    def test_fusions_do_not_share_schedules(self):
        program = example()
        one, two = fuse(program, BOTH), fuse(program, BOTH)
        one[KEY] = LISTED
        self.assertEqual(two[KEY], LEAST)


if __name__ == "__main__":
    unittest.main()
