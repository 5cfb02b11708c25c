"""The promises over the whole program, on many small programs, against a plain search over all possibilities."""

import random
import unittest

from fusewalks.batches import child_batches, reached, steps, unbounded
from fusewalks.dependencies import dependencies, find_cycle, items_of, least_schedule, reasons, spans
from fusewalks.errors import DependencyCycle, LimitExceeded, UnboundedBatches, WalkError
from fusewalks.fusion import Fusion, fuse, smallest_tree
from fusewalks.plans import Plan, build, fewest_groups, fewest_ignored, perform, trial
from fusewalks.traces import run

from tests import oracle
from tests.samples import BAD, bounded_cases, line_program, line_tree, random_case, tall_case, to_program, to_tree

CASES = bounded_cases(range(900))
SHALLOW = bounded_cases(range(900, 1500), calls=0.25, most=4)
TALL = bounded_cases(range(400), tall_case)


def small_shapes(case, most):
    return [shape for size in range(1, most + 1) for shape in oracle.shapes(case, case.root, size)]


def trace_data(trace, case, shape):
    """Return the trace as `(reads of each event, writers of each field of each node)`."""
    reads = {event: trace.reads(event) for event in trace}
    writes = {}
    for path in oracle.shape_paths(shape):
        for field in case.fields:
            writers = trace.writes(path, field)
            if writers:
                writes[(path, field)] = writers
    return reads, writes


def schedules_of(fusion):
    return {key: fusion[key] for key in fusion}


class Runs(unittest.TestCase):
    def test_plain_run(self):
        many = 0
        for case, program, row in CASES[:200]:
            for shape in small_shapes(case, 5)[:40]:
                tree = to_tree(program.grammar, shape)
                log = oracle.plain(case, row, shape)
                trace = run(program, row, tree)
                self.assertEqual(list(trace), [event for event, _, _ in log])
                self.assertEqual(len(trace), len(log))
                self.assertEqual(trace_data(trace, case, shape), oracle.record(log))
                left = case.fields[:1]
                self.assertEqual(trace_data(trace.without(*left), case, shape), oracle.record(log, left))
                many += len(log)
        self.assertGreater(many, 5000)

    def test_fused_run_equals_plain_run(self):
        fused_rows = 0
        for case, program, row in CASES + SHALLOW + TALL:
            try:
                fusion = fuse(program, row)
            except DependencyCycle:
                continue
            fused_rows += 1
            self.assertIsNone(fusion.fault())
            for shape in small_shapes(case, 6)[:60]:
                tree = to_tree(program.grammar, shape)
                self.assertEqual(
                    fusion(tree).without(*case.ignored), run(program, row, tree).without(*case.ignored)
                )
                visited = list(fusion.visits(tree))
                self.assertEqual(len(visited), len(set(visited)))
        self.assertGreater(fused_rows, 200)

    def test_fused_run_of_any_schedules(self):
        chance = random.Random(1)
        for case, program, row in CASES[:300] + TALL[:100]:
            fusion = Fusion(program, row)
            for key in fusion:
                fusion[key] = chance.sample(fusion[key], len(fusion[key]))
            for shape in small_shapes(case, 5)[:20]:
                tree = to_tree(program.grammar, shape)
                log, visited = oracle.fused(case, row, shape, schedules_of(fusion))
                trace = fusion(tree)
                self.assertEqual(list(trace), [event for event, _, _ in log])
                self.assertEqual(trace_data(trace, case, shape), oracle.record(log))
                self.assertEqual(list(fusion.visits(tree)), visited)


class Batches(unittest.TestCase):
    def test_unbounded_and_pairs(self):
        grown = 0
        for seed in range(1500):
            case, row = random_case(seed, calls=0.6, most=3)
            program = to_program(case)
            proof = unbounded(program, row)
            if proof is None:
                self.check_bounded(case, program, row)
            else:
                grown += 1
                self.check_proof(case, row, proof)
                with self.assertRaises(UnboundedBatches) as caught:
                    reached(program, row)
                error = caught.exception
                self.check_proof(case, row, (error.way, error.loop, error.first, error.second))
        self.assertGreater(grown, 200)

    def check_bounded(self, case, program, row):
        self.assertIsNotNone(oracle.pairs(case, row, most=1000))
        name = oracle.limit(case, row)
        if name is None:
            self.assertEqual(reached(program, row), oracle.pairs(case, row))
        else:
            with self.assertRaises(LimitExceeded) as caught:
                reached(program, row)
            self.assertEqual(caught.exception.limit, name)

    def check_proof(self, case, row, proof):
        way, loop, first, second = proof
        self.assertLessEqual(len(way), 20)
        self.assertTrue(1 <= len(loop) <= 2000)
        self.assertIsInstance(way, tuple)
        self.assertIsInstance(loop, tuple)
        family = oracle.lead(case, way, case.root)
        self.assertIsNotNone(family)
        self.assertEqual(oracle.lead(case, loop, family), family)
        self.assertTrue(any(first in oracle.chain_counts(case, way, walk) for walk in row))
        from_first = oracle.chain_counts(case, loop, first)
        if first == second:
            self.assertGreaterEqual(from_first.get(first, 0), 2)
        else:
            self.assertIn(first, from_first)
            self.assertIn(second, from_first)
            self.assertIn(second, oracle.chain_counts(case, loop, second))

    def test_steps_and_child_batches(self):
        for case, program, row in CASES[:200]:
            for family, batch in reached(program, row):
                for kind in case.kinds_of(family):
                    found = [
                        (turn, index, statement[:3] + tuple(tuple(part) for part in statement[3:]))
                        for turn, index, statement in oracle.steps(case, kind, batch)
                    ]
                    self.assertEqual(list(steps(program, kind, batch)), found)
                    below = [
                        oracle.child_batch(case, kind, batch, number)
                        for number in range(1, len(case.children[kind]) + 1)
                    ]
                    self.assertEqual(child_batches(program, kind, batch), tuple(below))


class Dependencies(unittest.TestCase):
    def keys(self, cases):
        for case, program, row in cases:
            for family, batch in reached(program, row):
                for kind in case.kinds_of(family):
                    yield case, program, kind, batch

    def test_items_reasons_and_dependencies(self):
        many = 0
        for case, program, kind, batch in self.keys(CASES[:250] + SHALLOW[:100] + TALL[:100]):
            order = oracle.items(case, kind, batch)
            self.assertEqual(items_of(program, kind, batch), order)
            self.assertEqual(dependencies(program, kind, batch), oracle.dependencies(case, kind, batch))
            wanted = oracle.clashes(case, kind, batch)
            for earlier in order:
                for later in order:
                    found = list(reasons(program, kind, batch, earlier, later))
                    right = [clash for one, two, clash in wanted if (one, two) == (earlier, later)]
                    self.assertEqual(len(found), len(set(found)))
                    self.assertEqual(set(found), set(right))
                    many += len(found)
        self.assertGreater(many, 2000)

    def test_cycles_schedules_and_spans(self):
        cycles = 0
        for case, program, kind, batch in self.keys(CASES + SHALLOW):
            if len(oracle.items(case, kind, batch)) > 6:
                continue
            shortest = oracle.shortest_cycle(case, kind, batch)
            found = find_cycle(program, kind, batch)
            self.check_cycle(case, kind, batch, found, shortest)
            if shortest > 0:
                cycles += 1
                self.check_refused(case, program, kind, batch, shortest)
            else:
                self.check_spans(case, program, kind, batch)
        self.assertGreater(cycles, 50)

    def check_cycle(self, case, kind, batch, cycle, shortest):
        self.assertEqual(len(cycle), shortest)
        self.assertEqual(len(set(cycle)), shortest)
        linked = oracle.dependencies(case, kind, batch)
        for at in range(shortest):
            self.assertIn((cycle[at], cycle[(at + 1) % shortest]), linked)

    def check_refused(self, case, program, kind, batch, shortest):
        for function in (least_schedule, spans):
            with self.assertRaises(DependencyCycle) as caught:
                function(program, kind, batch)
            error = caught.exception
            self.assertEqual((error.kind, error.batch), (kind, batch))
            self.assertIsInstance(error.cycle, tuple)
            self.check_cycle(case, kind, batch, list(error.cycle), shortest)

    def check_spans(self, case, program, kind, batch):
        order = oracle.items(case, kind, batch)
        rows = oracle.schedules(case, kind, batch)
        # The rows come in the order of the items, so the first one is the least.
        self.assertEqual(least_schedule(program, kind, batch), list(rows[0]))
        wanted = []
        for item in order:
            places = {row.index(item) for row in rows}
            self.assertEqual(len(places), max(places) - min(places) + 1)
            wanted.append((item, min(places), max(places)))
        self.assertEqual(spans(program, kind, batch), wanted)


class Faults(unittest.TestCase):
    def test_faults_are_real_and_smallest(self):
        chance = random.Random(2)
        faults = 0
        for case, program, row in CASES:
            fusion = Fusion(program, row)
            for _ in range(2):
                fault = fusion.fault()
                if fault is None:
                    self.check_equal_below(case, program, row, fusion, 6)
                else:
                    faults += 1
                    self.check_fault(case, program, row, fusion, fault)
                for key in fusion:
                    fusion[key] = chance.sample(fusion[key], len(fusion[key]))
        self.assertGreater(faults, 300)

    def test_faults_at_a_single_key(self):
        chance = random.Random(7)
        sizes = []
        for case, program, row in TALL:
            fusion = Fusion(program, row)
            try:
                fusion.arrange()
            except DependencyCycle:
                pass
            key = chance.choice(list(fusion))
            fusion[key] = fusion[key][::-1]
            fault = fusion.fault()
            if fault is not None:
                sizes.append(fault.tree.size)
                self.check_fault(case, program, row, fusion, fault)
                self.check_least_of_all_clashes(case, program, row, fusion, fault)
        self.assertGreater(len([size for size in sizes if size > 6]), 10)

    def check_least_of_all_clashes(self, case, program, row, fusion, fault):
        """Check that no clash with a broken dependency has a smaller tree, where the trees are too many to search."""
        for key in fusion:
            schedule = fusion[key]
            for earlier, later, clash in oracle.clashes(case, *key):
                if schedule.index(later) < schedule.index(earlier):
                    tree, _ = smallest_tree(program, row, *key, clash[0], clash[1])
                    self.assertLessEqual(fault.tree.size, tree.size)

    def check_equal_below(self, case, program, row, fusion, size):
        for shape in small_shapes(case, min(size, 7) - 1)[:80]:
            tree = to_tree(program.grammar, shape)
            self.assertEqual(fusion(tree).without(*case.ignored), run(program, row, tree).without(*case.ignored))

    def check_fault(self, case, program, row, fusion, fault):
        key = (fault.kind, fault.batch)
        schedule = fusion[key]
        self.assertLess(schedule.index(fault.later), schedule.index(fault.earlier))
        clash = (fault.first, fault.second, fault.place, fault.field)
        self.assertIn((fault.earlier, fault.later, clash), oracle.clashes(case, *key))
        self.assertEqual(fault.tree.family, case.root)
        self.assertEqual(fault.tree[fault.path].kind, fault.kind)
        self.check_equal_below(case, program, row, fusion, fault.tree.size)
        plain = run(program, row, fault.tree)
        fused = fusion(fault.tree)
        self.assertFalse(plain.without(*case.ignored) == fused.without(*case.ignored))
        first, second = [event_at(fault.path, event) for event in (fault.first, fault.second)]
        self.assertLess(list(plain).index(first), list(plain).index(second))
        self.assertLess(list(fused).index(second), list(fused).index(first))
        for event in (fault.first, fault.second):
            path = fault.path if event[0] == 0 else (*fault.path, event[0])
            self.assertEqual(fault.tree[path].kind, event[1])

    def test_smallest_trees(self):
        checked = 0
        for case, program, row in CASES[:250] + TALL[:150]:
            for key in Fusion(program, row):
                wanted = oracle.clashes(case, *key)
                for _, _, clash in wanted[:: max(1, len(wanted) // 2)]:
                    tree, path = smallest_tree(program, row, *key, clash[0], clash[1])
                    checked += self.check_smallest(case, row, key, clash, tree, path)
        self.assertGreater(checked, 200)

    def check_smallest(self, case, row, key, clash, tree, path):
        self.assertEqual(tree.family, case.root)
        self.assertEqual(tree[path].kind, key[0])
        self.assertEqual(batch_at(case, row, tree, path), key[1])
        for event in clash[:2]:
            if event[0] > 0:
                self.assertEqual(tree[(*path, event[0])].kind, event[1])
        if tree.size > 6:
            return 0
        for shape in small_shapes(case, tree.size - 1):
            for other in oracle.shape_paths(shape):
                self.assertFalse(self.shows(case, row, key, clash, shape, other))
        return 1

    def shows(self, case, row, key, clash, shape, path):
        node = oracle.at(shape, path)
        if node[0] != key[0] or shape_batch(case, row, shape, path) != key[1]:
            return False
        return all(event[0] == 0 or node[1][event[0] - 1][0] == event[1] for event in clash[:2])

    def test_schedules_that_keep_all_dependencies_are_right(self):
        chance = random.Random(3)
        for case, program, row in CASES[:300] + TALL[:150]:
            fusion = Fusion(program, row)
            for key in fusion:
                fusion[key] = chance.sample(fusion[key], len(fusion[key]))
            kept = all(
                fusion[key].index(one) < fusion[key].index(two)
                for key in fusion
                for one, two in oracle.dependencies(case, *key)
            )
            self.assertEqual(fusion.fault() is None, kept)


class Plans(unittest.TestCase):
    def test_fewest_groups(self):
        chance = random.Random(4)
        longer = 0
        for seed in range(400):
            case, _ = random_case(seed, calls=0.35, most=3)
            program = to_program(case)
            row = [chance.choice(program.names) for _ in range(chance.randint(0, 5))]
            alone = [name for name in row if self.refusal(program, [name]) is not None]
            if alone:
                with self.assertRaises(WalkError) as caught:
                    fewest_groups(program, row)
                wanted = self.refusal(program, alone[:1])
                self.assertEqual((type(caught.exception), vars(caught.exception)), (type(wanted), vars(wanted)))
                continue
            plans = [groups for groups in oracle.cuts(row) if self.all_fuse(case, groups)]
            fewest = min(len(groups) for groups in plans)
            best = max([groups for groups in plans if len(groups) == fewest], key=lambda gs: [len(g) for g in gs])
            self.assertEqual(list(fewest_groups(program, row)), list(best))
            longer += fewest > 1
        self.assertGreater(longer, 30)

    def refusal(self, program, row):
        try:
            fuse(program, row)
        except WalkError as error:
            return error
        return None

    def all_fuse(self, case, groups):
        for group in groups:
            if oracle.pairs(case, group, most=1000) is None or not oracle.fusable(case, group):
                return False
        return True

    def test_fewest_ignored_and_trial(self):
        helped = 0
        for case, program, row in CASES + SHALLOW[:100] + TALL[:150]:
            before = program.ignored
            right = None
            for many in range(len(case.fields) + 1):
                for choice in oracle.combinations(case.fields, many):
                    other = oracle.Case(case.fields, case.kinds, case.walks, [*case.ignored, *choice], case.root)
                    fits = oracle.fusable(other, row)
                    self.assertIs(trial(program, row, *choice), fits)
                    if fits and right is None:
                        right = choice
            self.assertEqual(fewest_ignored(program, row), right)
            self.assertEqual(program.ignored, before)
            helped += len(right) > 0
        self.assertGreater(helped, 50)

    def test_performed_plans(self):
        performed = 0
        for case, program, row in CASES[:250] + TALL[:100]:
            for groups in oracle.cuts(row + row[:1]):
                plan = Plan(*groups)
                try:
                    fusions = build(program, plan)
                except WalkError:
                    continue
                performed += 1
                self.assertEqual([list(fusion) for fusion in fusions], [list(fuse(program, g)) for g in groups])
                for shape in small_shapes(case, 5)[:12]:
                    tree = to_tree(program.grammar, shape)
                    trace = perform(program, plan, tree)
                    log, begun = [], {}
                    for fusion, group in zip(fusions, groups):
                        part, visited = oracle.fused(case, group, shape, schedules_of(fusion), begun)
                        self.assertEqual(len(visited), len(set(visited)))
                        log += part
                    self.assertEqual(list(trace), [event for event, _, _ in log])
                    self.assertEqual(trace_data(trace, case, shape), oracle.record(log))
                    right = run(program, plan.walks, tree) if len(plan.walks) <= 6 else None
                    self.assertEqual(trace.without(*case.ignored), right.without(*case.ignored))
        self.assertGreater(performed, 300)


class Refused(unittest.TestCase):
    """A call that raises an error changes nothing, and no call changes its arguments."""

    def setUp(self):
        self.program = line_program(BAD)
        self.program.ignore("b")
        self.fusion = Fusion(self.program, ["bad", "low"])
        for key in self.fusion:
            self.fusion[key] = self.fusion[key][::-1]
        self.row = ["bad", "low"]
        self.plan = Plan(["low"], self.row)
        self.tree = line_tree(self.program.grammar, 3)

    def state(self):
        program = self.program
        bodies = {(walk, kind): program.body(walk, kind) for walk in program.names for kind in program.grammar.kinds}
        return (
            program.ignored,
            bodies,
            schedules_of(self.fusion),
            list(self.fusion),
            list(self.plan),
            list(self.row),
            list(self.tree.paths()),
        )

    def test_refused_calls(self):
        program, fusion, row, tree = self.program, self.fusion, self.row, self.tree
        key = ("link", ("bad", "low"))
        clash = ((0, "link", 0, 0), (0, "link", 0, 1))
        calls = [
            fusion.arrange,
            lambda: fusion.reorder(*key, []),
            lambda: fusion.reorder("link", ("low", "bad"), fusion[key]),
            lambda: fusion[("none", ())],
            lambda: program.ignore("a", "none"),
            lambda: program.ignoring("a", "none"),
            lambda: program.row([*row, "none"]),
            lambda: program.body("bad", "none"),
            lambda: fuse(program, row),
            lambda: fuse(program, ["grow"]),
            lambda: build(program, self.plan),
            lambda: perform(program, self.plan, tree),
            lambda: fewest_groups(program, row),
            lambda: trial(program, row, "a", "none"),
            lambda: trial(program, ["grow"], "a"),
            lambda: trial(program, ["long", "long"], "a"),
            lambda: fewest_ignored(program, ["long", "long"]),
            lambda: smallest_tree(program, row, "none", (), *clash),
            lambda: least_schedule(program, *key),
            lambda: spans(program, *key),
            lambda: reached(program, ["long", "long"]),
            lambda: run(program, [*row, "none"], tree),
            lambda: tree[(1, 1, 1)],
            lambda: list(steps(program, "none", row)),
        ]
        before = self.state()
        for call in calls:
            with self.assertRaises(WalkError):
                call()
            self.assertEqual(self.state(), before)

    def test_calls_change_no_arguments(self):
        program, row, tree = self.program, self.row, self.tree
        before = self.state()
        self.assertEqual(len(run(program, row, tree)), 1)
        self.assertIs(trial(program, row), False)
        self.assertIs(trial(program, row, "a"), True)
        self.assertEqual(fewest_ignored(program, row), ("a",))
        self.assertEqual(fewest_groups(program, ["low", "low"]), Plan(["low", "low"]))
        self.assertIsNone(unbounded(program, row))
        self.assertEqual(len(self.plan + self.plan), 4)
        self.assertEqual(len(self.plan | self.plan), 1)
        self.fusion.fault()
        self.fusion.listing()
        self.assertEqual(self.state(), before)


def event_at(path, event):
    child, _, turn, index = event
    return (path if child == 0 else (*path, child), turn, index)


def shape_batch(case, row, shape, path):
    batch = tuple(row)
    for depth, number in enumerate(path):
        batch = oracle.child_batch(case, oracle.at(shape, path[:depth])[0], batch, number)
    return batch


def batch_at(case, row, tree, path):
    batch = tuple(row)
    for depth, number in enumerate(path):
        batch = oracle.child_batch(case, tree[path[:depth]].kind, batch, number)
    return batch


if __name__ == "__main__":
    unittest.main()
