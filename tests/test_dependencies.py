import random
import unittest

from fusewalks.dependencies import dependencies, find_cycle, items_of, least_schedule, reasons, spans
from fusewalks.errors import DependencyCycle, LimitExceeded, UnknownName
from fusewalks.grammar import Grammar
from fusewalks.program import Program

from tests.samples import example, expr_grammar, line_program, ring, sparse_case, to_program

BOTH = ("up", "down")
FREE = [("set", 0, "c", []), ("set", 0, "d", []), ("set", 0, "e", [])]


def same_cycle(one, two):
    return any(one[k:] + one[:k] == two for k in range(len(one)))


class Items(unittest.TestCase):
    def test_items(self):
        items = [("call", 1), ("call", 2), ("set", 0, 2), ("set", 1, 0), ("set", 1, 1)]
        self.assertEqual(items_of(example(), "pair", list(BOTH)), items)
        self.assertEqual(items_of(example(), "leaf", ["down", "up"]), [("set", 1, 0)])
        self.assertEqual(items_of(example(), "pair", ()), [])

    def test_order_of_first_steps(self):
        walks = {"up": {"pair": [("set", 0, "a", []), ("call", 2, "up"), ("call", 1, "up"), ("call", 2, "up")]}}
        program = Program(expr_grammar(), walks)
        items = [("set", 0, 0), ("call", 2), ("call", 1), ("set", 1, 0)]
        self.assertEqual(items_of(program, "pair", ["up", "up"]), items)

    def test_the_list_is_new(self):
        program = example()
        items_of(program, "pair", BOTH).clear()
        dependencies(program, "pair", BOTH).clear()
        least_schedule(program, "pair", BOTH).clear()
        spans(program, "pair", BOTH).clear()
        self.assertEqual(len(items_of(program, "pair", BOTH)), 5)
        self.assertEqual(len(dependencies(program, "pair", BOTH)), 4)


class Reasons(unittest.TestCase):
    def all_reasons(self, program, kind, batch):
        items = items_of(program, kind, batch)
        return {
            (one, two): list(reasons(program, kind, batch, one, two))
            for one in items
            for two in items
            if list(reasons(program, kind, batch, one, two))
        }

    def test_example(self):
        found = self.all_reasons(example(), "pair", BOTH)
        self.assertEqual(set(found), {
            (("call", 1), ("set", 0, 2)),
            (("call", 2), ("set", 0, 2)),
            (("set", 1, 0), ("call", 1)),
            (("set", 1, 1), ("call", 2)),
        })
        both = [
            ((1, "leaf", 0, 0), (0, "pair", 0, 2), 1, "a"),
            ((1, "pair", 0, 2), (0, "pair", 0, 2), 1, "a"),
        ]
        self.assertEqual(sorted(found[(("call", 1), ("set", 0, 2))]), both)
        read = [
            ((0, "pair", 1, 0), (1, "pair", 1, 0), 1, "b"),
            ((0, "pair", 1, 0), (1, "pair", 1, 1), 1, "b"),
        ]
        self.assertEqual(sorted(found[(("set", 1, 0), ("call", 1))]), read)

    def test_one_clash_for_each_field(self):
        body = [
            ("set", 0, "a", [(0, "b"), (0, "b")]),
            ("set", 0, "b", [(0, "a"), (0, "a"), (1, "a")]),
            ("set", 1, "a", [(0, "a")]),
        ]
        program = Program(expr_grammar(), {"up": {"pair": body}})
        found = self.all_reasons(program, "pair", ["up"])
        one, two, three = [(0, "pair", 0, k) for k in range(3)]
        self.assertEqual(set(found[(("set", 0, 0), ("set", 0, 1))]), {(one, two, 0, "a"), (one, two, 0, "b")})
        self.assertEqual(found[(("set", 0, 0), ("set", 0, 2))], [(one, three, 0, "a")])
        self.assertEqual(found[(("set", 0, 1), ("set", 0, 2))], [(two, three, 1, "a")])
        self.assertEqual(len(found), 3)

    def test_reads_do_not_clash(self):
        body = [("set", 0, "a", [(0, "b"), (1, "b")]), ("set", 1, "a", [(0, "b"), (1, "b")])]
        self.assertEqual(self.all_reasons(Program(expr_grammar(), {"up": {"pair": body}}), "pair", ["up"]), {})

    def test_both_directions(self):
        walks = {
            "up": {"pair": [("call", 1, "low"), ("set", 0, "b", [(1, "a")]), ("call", 1, "low")]},
            "low": {"leaf": [("set", 0, "a", [])]},
        }
        program = Program(expr_grammar(), walks)
        found = self.all_reasons(program, "pair", ["up"])
        mine = (0, "pair", 0, 1)
        self.assertEqual(found, {
            (("call", 1), ("set", 0, 1)): [((1, "leaf", 0, 0), mine, 1, "a")],
            (("set", 0, 1), ("call", 1)): [(mine, (1, "leaf", 1, 0), 1, "a")],
        })
        self.assertEqual(dependencies(program, "pair", ["up"]), [
            (("call", 1), ("set", 0, 1)),
            (("set", 0, 1), ("call", 1)),
        ])

    def test_grandchildren_and_other_children_do_not_count(self):
        walks = {
            "up": {"pair": [("call", 1, "low"), ("set", 2, "a", []), ("set", 0, "a", [])]},
            "low": {"pair": [("set", 1, "a", [(2, "a")])]},
        }
        self.assertEqual(dependencies(Program(expr_grammar(), walks), "pair", ["up"]), [])

    def test_items_that_do_not_exist_and_equal_items(self):
        program = example()
        call, other = ("call", 1), ("set", 0, 2)
        for one, two in ((call, call), (other, other), (call, ("set", 0, 0)), (("call", 3), other), (other, call)):
            self.assertEqual(list(reasons(program, "pair", BOTH, one, two)), [])

    def test_ignored_fields(self):
        program = example()
        program.ignore("a")
        self.assertEqual(dependencies(program, "pair", BOTH), [
            (("set", 1, 0), ("call", 1)),
            (("set", 1, 1), ("call", 2)),
        ])
        with program.ignoring("b"):
            self.assertEqual(dependencies(program, "pair", BOTH), [])
            self.assertEqual(list(reasons(program, "pair", BOTH, ("set", 1, 0), ("call", 1))), [])
        self.assertEqual(list(reasons(program, "pair", BOTH, ("call", 1), ("set", 0, 2))), [])

    def test_long_batches_of_children(self):
        many = [("call", 1, "low")] * 5 + [("set", 0, "b", [(1, "a")])]
        program = Program(expr_grammar(), {"up": {"pair": many}, "low": {"leaf": [("set", 0, "a", [])]}})
        batch = ["up"] * 6
        found = list(reasons(program, "pair", batch, ("set", 3, 5), ("call", 1)))
        self.assertEqual(sorted(clash[1][2] for clash in found), list(range(20, 30)))


class Dependencies(unittest.TestCase):
    def test_example(self):
        self.assertEqual(dependencies(example(), "pair", BOTH), [
            (("call", 1), ("set", 0, 2)),
            (("call", 2), ("set", 0, 2)),
            (("set", 1, 0), ("call", 1)),
            (("set", 1, 1), ("call", 2)),
        ])

    def test_errors(self):
        program = example()
        asked = [
            items_of,
            dependencies,
            find_cycle,
            least_schedule,
            spans,
            lambda *given: list(reasons(*given, ("call", 1), ("call", 2))),
        ]
        for ask in asked:
            with self.assertRaises(UnknownName) as caught:
                ask(program, "expr", ["side"] * 7)
            self.assertEqual(caught.exception.name, "expr")
            with self.assertRaises(LimitExceeded) as caught:
                ask(program, "pair", ["side"] * 7)
            self.assertEqual(caught.exception.limit, "row")
            with self.assertRaises(UnknownName) as caught:
                ask(program, "pair", ["up", "side", "wrong"])
            self.assertEqual(caught.exception.name, "side")

    def test_a_generator_raises_when_it_is_iterated(self):
        found = reasons(example(), "expr", ["up"], ("call", 1), ("call", 2))
        with self.assertRaises(UnknownName):
            next(found)


class Cycles(unittest.TestCase):
    def test_none(self):
        self.assertEqual(find_cycle(example(), "pair", BOTH), [])
        self.assertEqual(find_cycle(example(), "pair", []), [])

    def test_rings(self):
        for length in range(2, 8):
            program, batch = ring(length)
            cycle = find_cycle(program, "top", batch)
            items = items_of(program, "top", batch)
            self.assertTrue(same_cycle(items[:length], cycle), (length, cycle))
            for function in (least_schedule, spans):
                with self.assertRaises(DependencyCycle) as caught:
                    function(program, "top", list(batch))
                error = caught.exception
                self.assertEqual((error.kind, error.batch), ("top", batch))
                self.assertIsInstance(error.cycle, tuple)
                self.assertTrue(same_cycle(items[:length], list(error.cycle)))

    def test_several_rings(self):
        """One ring of items is around child 1 and another one around child 2; each may be the shorter one."""
        for first, second in ((2, 3), (3, 2), (3, 4), (4, 3), (3, 3)):
            body = []
            for child, length, fields in ((1, first, "ab"), (2, second, "cd")):
                places = [(child, "e"), (0, fields[0]), (0, fields[1])][: length - 1] + [(child, "f")]
                body.append([("call", child, "low")])
                body[-1] += [("set", *places[k + 1], [places[k]]) for k in range(length - 1)]
                body[-1] += [("call", child, "read")]
            kinds = [("top", "x", ["y", "y"]), ("dot", "y", [])]
            walks = {
                "one": {"top": body[0]},
                "two": {"top": body[1]},
                "low": {"dot": [("set", 0, "e", [])]},
                "read": {"dot": [("set", 0, "b", [(0, "f")])]},
            }
            program = Program(Grammar(["a", "b", "c", "d", "e", "f"], kinds), walks)
            for batch in (["one", "two"], ["two", "one"]):
                self.assertEqual(self.check(program, "top", batch), min(first, second))

    def test_rings_among_other_items(self):
        chance = random.Random(6)
        lengths = set()
        for _ in range(150):
            noise = [
                ("set", chance.randint(0, 2), chance.choice("cdef"), [(chance.randint(0, 2), chance.choice("cdef"))])
                for _ in range(chance.randint(1, 2))
            ]
            program, batch = ring(chance.randint(2, 6), noise)
            if len(items_of(program, "top", batch)) <= 8:
                lengths.add(self.check(program, "top", batch))
        self.assertGreaterEqual(lengths, {2, 3, 4, 5, 6})

    def test_sparse_cases(self):
        for seed in (*range(300), *LONG_SEEDS):
            case, batch = sparse_case(seed)
            length = self.check(to_program(case), "top", batch)
            if seed in LONG_SEEDS:
                self.assertGreater(length, 2)

    def check(self, program, kind, batch):
        """Check a shortest cycle against the length of the shortest way that returns, found step by step."""
        cycle = find_cycle(program, kind, batch)
        linked = set(dependencies(program, kind, batch))
        self.assertEqual(len(cycle), len(set(cycle)))
        for at, item in enumerate(cycle):
            self.assertIn((item, cycle[(at + 1) % len(cycle)]), linked)
        items = items_of(program, kind, batch)
        ways = linked
        length = 2
        while length <= len(items):
            ways = {(one, four) for one, two in ways for three, four in linked if two == three}
            if any(one == two for one, two in ways):
                break
            length += 1
        self.assertEqual(len(cycle), length if length <= len(items) else 0)
        return len(cycle)

    def test_a_new_list_each_time(self):
        program, batch = ring(3)
        find_cycle(program, "top", batch).clear()
        self.assertEqual(len(find_cycle(program, "top", batch)), 3)


# Seeds of sparse cases whose shortest cycles have more than two items.
LONG_SEEDS = [1317, 1344, 1578, 3411, 5309, 7240, 7924, 8689, 9227, 11630, 11770]


class Schedules(unittest.TestCase):
    def test_example(self):
        schedule = [("set", 1, 0), ("call", 1), ("set", 1, 1), ("call", 2), ("set", 0, 2)]
        self.assertEqual(least_schedule(example(), "pair", BOTH), schedule)
        self.assertEqual(spans(example(), "pair", BOTH), [
            (("call", 1), 1, 3),
            (("call", 2), 1, 3),
            (("set", 0, 2), 4, 4),
            (("set", 1, 0), 0, 2),
            (("set", 1, 1), 0, 2),
        ])

    def test_free_items_keep_their_order(self):
        program = line_program({"up": {"end": FREE}}, fields="cde")
        items = [("set", 0, 0), ("set", 0, 1), ("set", 0, 2)]
        self.assertEqual(least_schedule(program, "end", ["up"]), items)
        self.assertEqual(spans(program, "end", ["up"]), [(item, 0, 2) for item in items])

    def test_empty(self):
        self.assertEqual(least_schedule(example(), "leaf", ["down"]), [])
        self.assertEqual(spans(example(), "leaf", []), [])

    def test_one_item(self):
        self.assertEqual(spans(example(), "leaf", ["up"]), [(("set", 0, 0), 0, 0)])

    def test_a_chain(self):
        body = [("set", 0, "a", [(0, "a")])] * 4
        program = line_program({"up": {"end": body}})
        self.assertEqual(spans(program, "end", ["up"]), [(("set", 0, k), k, k) for k in range(4)])

    def test_ignored_fields_end_a_cycle(self):
        program, batch = ring(4)
        with program.ignoring("b"):
            schedule = least_schedule(program, "top", batch)
        self.assertEqual(schedule, items_of(program, "top", batch))
        self.assertEqual(len(find_cycle(program, "top", batch)), 4)


if __name__ == "__main__":
    unittest.main()
