"""Grammars, programs and trees for the tests: some by hand, many small ones by a seed."""

import random

from fusewalks.batches import reached
from fusewalks.errors import BadGrammar, LimitExceeded, UnboundedBatches
from fusewalks.grammar import Grammar
from fusewalks.program import Program
from fusewalks.trees import Tree

from tests.oracle import Case

EXPR = [("leaf", "expr", []), ("pair", "expr", ["expr", "expr"])]
COLLECT = [("call", 1, "up"), ("call", 2, "up"), ("set", 0, "a", [(1, "a"), (2, "a")])]
SPREAD = [
    ("set", 1, "b", [(0, "b")]),
    ("set", 2, "b", [(0, "b")]),
    ("call", 1, "down"),
    ("call", 2, "down"),
]
EXAMPLE = {"up": {"leaf": [("set", 0, "a", [])], "pair": COLLECT}, "down": {"pair": SPREAD}}

# A chain of nodes: the family has a leaf and a kind with one child.
LINE = [("end", "line", []), ("link", "line", ["line"])]


# "bad" cannot be fused alone: it runs "low" on the child before and after it reads a of the child.
BAD = {
    "bad": {"link": [("call", 1, "low"), ("set", 0, "b", [(1, "a")]), ("call", 1, "low")]},
    "low": {"end": [("set", 0, "a", [])]},
    "grow": {"link": [("call", 1, "grow"), ("call", 1, "grow")]},
    "long": {"link": [("call", 1, "low")] * 4},
}


def expr_grammar():
    return Grammar(["a", "b"], EXPR)


def example():
    """Return the program of point 28."""
    return Program(expr_grammar(), EXAMPLE)


def line_program(walks, fields=("a", "b")):
    return Program(Grammar(list(fields), LINE), walks)


def line_tree(grammar, many):
    tree = Tree(grammar, "end")
    for _ in range(many - 1):
        tree = Tree(grammar, "link", tree)
    return tree


def sample_tree(grammar):
    leaf = Tree(grammar, "leaf")
    return Tree(grammar, "pair", leaf, Tree(grammar, "pair", leaf, leaf))


def ring(length, noise=()):
    """Return a program and a batch whose only cycle at the kind "top" has this many items.

    The call on child 1 comes first, because it sets a; one set after the other reads what the one before has set;
    and the last one sets b of the child before the call comes again, because a second walk on the child reads b.
    """
    kinds = [("top", "x", ["y", "y"]), ("dot", "y", [])]
    places = [(1, "a"), (0, "c"), (0, "d"), (0, "e"), (0, "f"), (2, "c"), (2, "d")][: length - 1] + [(1, "b")]
    sets = [("set", *places[k + 1], [places[k]]) for k in range(length - 1)]
    walks = {
        "one": {"top": [("call", 1, "low"), *sets[:5]], "dot": []},
        "two": {"top": [*sets[5:], ("call", 1, "read"), *noise], "dot": []},
        "low": {"dot": [("set", 0, "a", [])]},
        "read": {"dot": [("set", 0, "f", [(0, "b")])]},
    }
    return Program(Grammar(["a", "b", "c", "d", "e", "f"], kinds), walks), ("one", "two")


def to_tree(grammar, shape):
    kind, children = shape
    return Tree(grammar, kind, *[to_tree(grammar, child) for child in children])


def to_program(case):
    grammar = Grammar(case.fields, case.kinds, root=case.root)
    program = Program(grammar, case.walks)
    program.ignore(*case.ignored)
    return program


def _random_kinds(chance):
    families = ["x", "y"][: chance.randint(1, 2)]
    kinds = []
    for number in range(chance.randint(2, 4)):
        family = families[number] if number < len(families) else chance.choice(families)
        most = 0 if number == 0 and chance.random() < 0.5 else 2
        children = [chance.choice(families) for _ in range(chance.randint(0, most))]
        kinds.append(("k" + "abcd"[number], family, children))
    return kinds


def _random_statement(chance, fields, many, walks, calls):
    if many > 0 and chance.random() < calls:
        return ("call", chance.randint(1, many), chance.choice(walks))
    if not fields:
        return None
    reads = [(chance.randint(0, many), chance.choice(fields)) for _ in range(chance.choice([0, 0, 1, 1, 2]))]
    return ("set", chance.randint(0, many), chance.choice(fields), reads)


def random_case(seed, calls=0.4, most=3):
    """Return a small case and a row for it; the same seed gives the same ones."""
    chance = random.Random(seed)
    while True:
        kinds = _random_kinds(chance)
        fields = ["a", "b", "c"][: chance.randint(0 if chance.random() < 0.1 else 1, 3)]
        try:
            Grammar(fields, kinds)
        except BadGrammar:
            continue
        break
    names = ["up", "down", "mark"][: chance.randint(1, 3)]
    walks = {}
    for name in names:
        walks[name] = {}
        for kind, _, children in kinds:
            body = [
                _random_statement(chance, fields, len(children), names, calls)
                for _ in range(chance.randint(0, most))
            ]
            walks[name][kind] = [statement for statement in body if statement is not None]
    ignored = [field for field in fields if chance.random() < 0.15]
    row = [chance.choice(names) for _ in range(chance.choice([1, 1, 2, 2, 3]))]
    return Case(fields, kinds, walks, ignored), row


def _tall_kinds(chance):
    families = ["x", "y", "z"][: chance.randint(1, 3)]
    kinds = []
    for number in range(chance.randint(len(families) + 1, 6)):
        family = families[number] if number < len(families) else chance.choice(families)
        children = [chance.choice(families) for _ in range(chance.choice([0, 1, 1, 2, 2, 3]))]
        kinds.append(("k" + "abcdef"[number], family, children))
    return kinds


def tall_case(seed):
    """Return a case whose walks call at most one walk on each child, so that deep nodes are reached, and a row."""
    chance = random.Random(seed)
    fields = ["a", "b", "c", "d"][: chance.randint(1, 4)]
    while True:
        kinds = _tall_kinds(chance)
        try:
            grammar = Grammar(fields, kinds)
        except BadGrammar:
            continue
        break
    names = ["up", "down", "mark"][: chance.randint(1, 3)]
    walks = {name: {} for name in names}
    for name in names:
        for kind, _, children in kinds:
            body = [
                ("call", child, chance.choice(names))
                for child in range(1, len(children) + 1)
                if chance.random() < 0.8
            ]
            for _ in range(chance.choice([0, 0, 1, 2])):
                statement = _random_statement(chance, fields, len(children), names, 0)
                body.insert(chance.randint(0, len(body)), statement)
            walks[name][kind] = body
    row = [chance.choice(names) for _ in range(chance.choice([1, 2, 2, 3]))]
    return Case(fields, kinds, walks, root=chance.choice(grammar.families)), row


def bounded_cases(seeds, make=random_case, **more):
    """Return `(case, program, row)` for those seeds whose row has pairs within the limits."""
    found = []
    for seed in seeds:
        case, row = make(seed, **more)
        program = to_program(case)
        try:
            reached(program, row)
        except (UnboundedBatches, LimitExceeded):
            continue
        found.append((case, program, row))
    return found


def sparse_case(seed):
    """Return a case with few clashes among many items, so that cycles are long, and a batch for its kind "top"."""
    chance = random.Random(seed)
    fields = ["a", "b", "c", "d", "e", "f"]
    kinds = [("top", "x", ["y", "y", "y"]), ("low", "y", []), ("dot", "y", [])]
    names = ["up", "down", "mark", "fold", "copy", "type"]
    walks = {}
    for name, field in zip(names, fields):
        body = []
        for _ in range(chance.randint(2, 5)):
            if chance.random() < 0.4:
                body.append(("call", chance.randint(1, 3), chance.choice(names)))
            else:
                read = (chance.randint(0, 3), chance.choice(fields))
                body.append(("set", chance.choice([0, 0, 1, 2, 3]), chance.choice(fields), [read]))
        walks[name] = {"top": body, chance.choice(["low", "dot"]): [("set", 0, field, [])]}
    return Case(fields, kinds, walks), [chance.choice(names) for _ in range(chance.randint(2, 5))]
