import unittest

from fusewalks.errors import BadStatement, LimitExceeded, UnknownName
from fusewalks.grammar import Grammar
from fusewalks.program import Ignoring, Program

from tests.samples import EXAMPLE, EXPR, LINE, example, expr_grammar, line_program

SET = ("set", 0, "a", [])


def many_walks(many):
    return {"w" + "abcdefg"[k]: {} for k in range(many)}


class Bodies(unittest.TestCase):
    def test_attributes(self):
        program = example()
        self.assertEqual(program.names, ("up", "down"))
        self.assertEqual(program.grammar.kinds, ("leaf", "pair"))
        self.assertEqual(program.ignored, ())
        self.assertEqual((Program.MOST_WALKS, Program.MOST_STATEMENTS), (6, 6))
        self.assertEqual((Program.MOST_READS, Program.MOST_NAMES), (4, 6))

    def test_body(self):
        program = example()
        body = (("call", 1, "up"), ("call", 2, "up"), ("set", 0, "a", ((1, "a"), (2, "a"))))
        self.assertEqual(program.body("up", "pair"), body)
        self.assertEqual(program.body("down", "leaf"), ())
        self.assertIsInstance(program.body("up", "pair")[2][3], tuple)

    def test_body_of_unknown_names(self):
        program = example()
        for walk, kind, name in (("side", "leaf", "side"), ("up", "expr", "expr"), ("side", "expr", "side")):
            with self.assertRaises(UnknownName) as caught:
                program.body(walk, kind)
            self.assertEqual(caught.exception.name, name)

    def test_lists_and_dicts_are_copied(self):
        reads = [(0, "a")]
        body = [("set", 0, "a", reads)]
        bodies = {"leaf": body}
        walks = {"up": bodies}
        program = Program(expr_grammar(), walks)
        reads.append((0, "b"))
        body.append(SET)
        bodies["pair"] = [SET]
        walks["down"] = {}
        self.assertEqual(program.body("up", "leaf"), (("set", 0, "a", ((0, "a"),)),))
        self.assertEqual(program.body("up", "pair"), ())
        self.assertEqual(program.names, ("up",))

    def test_tuples_as_lists(self):
        program = Program(expr_grammar(), {"up": {"leaf": (("set", 0, "a", ((0, "b"),)),)}})
        self.assertEqual(program.body("up", "leaf"), (("set", 0, "a", ((0, "b"),)),))

    def test_arguments_are_not_changed(self):
        reads = [(1, "a")]
        walks = {"up": {"pair": [("set", 0, "a", reads), ("call", 1, "up")]}}
        Program(expr_grammar(), walks)
        self.assertEqual(walks, {"up": {"pair": [("set", 0, "a", [(1, "a")]), ("call", 1, "up")]}})

    def test_no_walks_and_no_fields(self):
        self.assertEqual(Program(Grammar([], EXPR), {}).names, ())
        program = Program(Grammar([], EXPR), {"up": {"pair": [("call", 2, "up")]}})
        self.assertEqual(program.body("up", "pair"), (("call", 2, "up"),))


class Checks(unittest.TestCase):
    def refused(self, walks, kinds=EXPR):
        with self.assertRaises(BadStatement) as caught:
            Program(Grammar(["a", "b"], kinds), walks)
        error = caught.exception
        return (error.walk, error.kind, error.index)

    def test_number_of_walks(self):
        self.assertEqual(len(Program(expr_grammar(), many_walks(6)).names), 6)
        with self.assertRaises(LimitExceeded) as caught:
            Program(expr_grammar(), {**many_walks(7), "wa": {"nothing": []}})
        self.assertEqual(caught.exception.limit, "walks")

    def test_number_of_statements(self):
        self.assertEqual(len(Program(expr_grammar(), {"up": {"leaf": [SET] * 6}}).body("up", "leaf")), 6)
        with self.assertRaises(LimitExceeded) as caught:
            Program(expr_grammar(), {"up": {"leaf": [("skip",)] * 7}})
        self.assertEqual(caught.exception.limit, "statements")

    def test_kinds(self):
        with self.assertRaises(UnknownName) as caught:
            Program(expr_grammar(), {"up": {"nothing": [SET] * 7}})
        self.assertEqual(caught.exception.name, "nothing")
        with self.assertRaises(UnknownName):
            Program(expr_grammar(), {"up": {"nothing": []}})

    def test_order_of_the_bodies(self):
        bad = [("call", 0, "up")]
        walks = {"up": {"pair": bad, "leaf": [SET] * 7}, "down": {"none": []}}
        self.assertEqual(self.refused(walks), ("up", "pair", 0))
        with self.assertRaises(LimitExceeded):
            Program(expr_grammar(), {"up": {"leaf": [SET] * 7, "pair": bad}})
        with self.assertRaises(UnknownName):
            Program(expr_grammar(), {"up": {"none": []}, "down": {"pair": bad}})

    def test_index_of_the_first_invalid_statement(self):
        self.assertEqual(self.refused({"up": {"leaf": [SET, SET, ("skip",), ("skip",)]}}), ("up", "leaf", 2))

    def test_invalid_statements(self):
        invalid = [
            ("skip", 1, "up"),
            ("Set", 0, "a", []),
            ("call", 0, "up"),
            ("call", -1, "up"),
            ("call", 3, "up"),
            ("call", 1, "side"),
            ("set", -1, "a", []),
            ("set", 3, "a", []),
            ("set", 0, "c", []),
            ("set", 0, "up", []),
            ("set", 0, "a", [(0, "a")] * 5),
            ("set", 0, "a", [(0, "a"), (3, "a")]),
            ("set", 0, "a", [(-1, "a")]),
            ("set", 0, "a", [(1, "c")]),
        ]
        for statement in invalid:
            self.assertEqual(self.refused({"up": {"pair": [statement]}}), ("up", "pair", 0))

    def test_children_are_those_of_the_kind(self):
        self.assertEqual(self.refused({"up": {"leaf": [("call", 1, "up")]}}), ("up", "leaf", 0))
        self.assertEqual(self.refused({"up": {"leaf": [("set", 1, "a", [])]}}), ("up", "leaf", 0))
        self.assertEqual(self.refused({"up": {"leaf": [("set", 0, "a", [(1, "a")])]}}), ("up", "leaf", 0))
        self.assertEqual(self.refused({"up": {"link": [("call", 2, "up")]}}, LINE), ("up", "link", 0))

    def test_valid_statements(self):
        body = [
            ("set", 2, "b", [(0, "a"), (1, "a"), (2, "a"), (2, "a")]),
            ("call", 2, "down"),
            ("call", 1, "up"),
            ("call", 1, "up"),
        ]
        program = Program(expr_grammar(), {"up": {"pair": body}, "down": {}})
        self.assertEqual(len(program.body("up", "pair")), 4)


class Rows(unittest.TestCase):
    def test_row(self):
        program = example()
        names = ["up", "down", "up"]
        row = program.row(names)
        names.append("down")
        self.assertEqual(row, ("up", "down", "up"))
        self.assertEqual(program.row(("down",)), ("down",))
        self.assertEqual(program.row([]), ())
        self.assertEqual(program.row(["up"] * 6), ("up",) * 6)

    def test_errors(self):
        program = example()
        with self.assertRaises(LimitExceeded) as caught:
            program.row(["side"] * 7)
        self.assertEqual(caught.exception.limit, "row")
        with self.assertRaises(UnknownName) as caught:
            program.row(["up", "side", "wrong"])
        self.assertEqual(caught.exception.name, "side")


class Ignored(unittest.TestCase):
    def setUp(self):
        self.program = line_program({}, fields=("a", "b", "c", "d"))

    def test_assigned(self):
        fields = ["d", "b", "d"]
        self.program.ignored = fields
        fields.append("a")
        self.assertEqual(self.program.ignored, ("b", "d"))
        self.program.ignored = ("c",)
        self.assertEqual(self.program.ignored, ("c",))
        self.program.ignored = []
        self.assertEqual(self.program.ignored, ())

    def test_ignore(self):
        self.program.ignore("c", "a", "c")
        self.assertEqual(self.program.ignored, ("a", "c"))
        self.program.ignore("b")
        self.assertEqual(self.program.ignored, ("b",))
        self.program.ignore()
        self.assertEqual(self.program.ignored, ())

    def test_unknown_fields_change_nothing(self):
        self.program.ignore("a")
        with self.assertRaises(UnknownName) as caught:
            self.program.ignored = ["b", "x", "y"]
        self.assertEqual(caught.exception.name, "x")
        with self.assertRaises(UnknownName) as caught:
            self.program.ignore("y", "b", "x")
        self.assertEqual(caught.exception.name, "y")
        with self.assertRaises(UnknownName) as caught:
            self.program.ignoring("b", "x")
        self.assertEqual(caught.exception.name, "x")
        self.assertEqual(self.program.ignored, ("a",))

    def test_ignoring(self):
        self.program.ignore("b")
        block = self.program.ignoring("d", "a")
        self.assertIsInstance(block, Ignoring)
        self.assertEqual(self.program.ignored, ("b",))
        with block:
            self.assertEqual(self.program.ignored, ("a", "b", "d"))
        self.assertEqual(self.program.ignored, ("b",))

    def test_ignoring_adds_to_what_is_ignored_when_the_block_begins(self):
        block = self.program.ignoring("a")
        self.program.ignore("c")
        with block:
            self.assertEqual(self.program.ignored, ("a", "c"))
        self.assertEqual(self.program.ignored, ("c",))

    def test_ignoring_ends_by_an_error(self):
        self.program.ignore("b")
        with self.assertRaises(KeyError):
            with self.program.ignoring("a"):
                self.program.ignore("d")
                raise KeyError("a")
        self.assertEqual(self.program.ignored, ("b",))

    def test_ignoring_ends_by_return_and_break(self):
        def inside():
            with self.program.ignoring("a"):
                return self.program.ignored

        self.assertEqual(inside(), ("a",))
        self.assertEqual(self.program.ignored, ())
        for _ in range(2):
            with self.program.ignoring("a"):
                break
        self.assertEqual(self.program.ignored, ())

    def test_ignoring_in_ignoring(self):
        with self.program.ignoring("a"):
            with self.program.ignoring("b", "a"):
                self.assertEqual(self.program.ignored, ("a", "b"))
            self.assertEqual(self.program.ignored, ("a",))
        self.assertEqual(self.program.ignored, ())

    def test_changed_inside_the_block(self):
        self.program.ignore("a")
        with self.program.ignoring("b"):
            self.program.ignored = ["d"]
            self.assertEqual(self.program.ignored, ("d",))
        self.assertEqual(self.program.ignored, ("a",))

    def test_ignoring_nothing(self):
        self.program.ignore("a")
        with self.program.ignoring():
            self.assertEqual(self.program.ignored, ("a",))
        self.assertEqual(self.program.ignored, ("a",))

    def test_programs_do_not_share_ignored_fields(self):
        other = Program(self.program.grammar, {})
        other.ignore("a")
        self.assertEqual(self.program.ignored, ())


class Samples(unittest.TestCase):
    def test_the_example_is_not_changed(self):
        self.assertEqual(EXAMPLE["up"]["leaf"], [("set", 0, "a", [])])


if __name__ == "__main__":
    unittest.main()
