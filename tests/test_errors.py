import unittest

from fusewalks import errors
from fusewalks.errors import (
    BadGrammar,
    BadSchedule,
    BadStatement,
    BadTree,
    DependencyCycle,
    LimitExceeded,
    NotReached,
    UnboundedBatches,
    UnknownName,
    WalkError,
)

CYCLE = (("call", 1), ("set", 0, 1))
MADE = {
    LimitExceeded: (("fields",), ("limit",)),
    UnknownName: (("up",), ("name",)),
    BadGrammar: (("root",), ("part",)),
    BadTree: (((1, 2),), ("path",)),
    BadStatement: (("up", "pair", 0), ("walk", "kind", "index")),
    BadSchedule: (("pair", ("up",)), ("kind", "batch")),
    NotReached: (("pair", ("up",)), ("kind", "batch")),
    UnboundedBatches: (((("pair", 1),), (("pair", 2),), "up", "down"), ("way", "loop", "first", "second")),
    DependencyCycle: (("pair", ("up",), CYCLE), ("kind", "batch", "cycle")),
}


class Errors(unittest.TestCase):
    def test_attributes(self):
        for made, (values, names) in MADE.items():
            error = made(*values)
            self.assertEqual(tuple(getattr(error, name) for name in names), values)
            self.assertEqual(list(vars(error)), list(names))

    def test_bases(self):
        self.assertTrue(issubclass(WalkError, ValueError))
        for made in MADE:
            self.assertTrue(issubclass(made, WalkError))
            for other in MADE:
                self.assertEqual(issubclass(made, other), made is other)

    def test_all_errors_are_here(self):
        found = [value for value in vars(errors).values() if isinstance(value, type)]
        self.assertEqual(set(found), {WalkError, *MADE})

    def test_lists_are_copied(self):
        for made, (values, names) in MADE.items():
            given = [list(value) if isinstance(value, tuple) else value for value in values]
            error = made(*given)
            for value in given:
                if isinstance(value, list):
                    value.clear()
            self.assertEqual(tuple(getattr(error, name) for name in names), values)

    def test_messages_say_what_is_wrong(self):
        self.assertIn("fields", str(LimitExceeded("fields")))
        self.assertIn("pair", str(BadStatement("up", "pair", 0)))


if __name__ == "__main__":
    unittest.main()
