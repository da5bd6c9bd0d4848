"""[5], [10]: STEPS and PATHS."""

import random
import unittest

from pathfolios.paths import is_path, is_step
from tests.makers import ODD_THINGS, a_path, a_step

STEPS = (("field", "a"), ("field", "abcdefgh"), ("at", 0), ("at", 10 ** 59), ("each",), ("where", "a", 1),
         ("where", "each", True), ("where", "a", ""), ("where", "zz", "x" * 16), ("where", "a", -4))
NO_STEPS = (
    (), "each", ["each"], ("each", None), ("each", ()), ("Each",), (("each",),), ("every",), ("",), (None,), (1,),
    ([],), (b"each",),
    ("field",), ("field", ""), ("field", "abcdefghi"), ("field", "A"), ("field", "a1"), ("field", 1), ("field", None),
    ("field", "a", "b"), ["field", "a"], ("field", ["a"]), ("field", ("a",)),
    ("at",), ("at", -1), ("at", True), ("at", False), ("at", "0"), ("at", None), ("at", 1.0), ("at", 0, 0), ["at", 0],
    ("at", (0,)),
    ("where",), ("where", "a"), ("where", "a", 1, 1), ("where", "A", 1), ("where", "", 1), ("where", 1, "a"),
    ("where", "a", None), ("where", "a", "A"), ("where", "a", "x" * 17), ("where", "a", ("row", ())),
    ("where", "a", ("tree", ())), ("where", "a", ()), ("where", "a", [1]), ["where", "a", 1],
)


class Paths(unittest.TestCase):
    def told(self, look, thing, so):
        self.assertIs(look(thing), so, repr(thing))

    def test_steps(self):
        for thing in STEPS:
            self.told(is_step, thing, True)

    def test_no_steps(self):
        for thing in NO_STEPS + ODD_THINGS:
            self.told(is_step, thing, False)

    def test_paths(self):
        for step in STEPS:
            self.told(is_path, (step,), True)
        self.told(is_path, STEPS, True)
        self.told(is_path, (("each",),) * 1500, True)

    def test_no_paths(self):
        for thing in ODD_THINGS + STEPS + ((), [], [("each",)], "a", (("each",), None), (["each"],)):
            self.told(is_path, thing, False)
        for step in NO_STEPS:
            self.told(is_path, (step,), False)
            self.told(is_path, (("each",), step), False)
            self.told(is_path, (step, ("each",)), False)

    def test_deep_things(self):
        deep = ("each",)
        for _ in range(28):
            deep = (deep,)
            self.told(is_step, deep, False)
        self.told(is_path, (("each",),), True)
        self.told(is_path, deep, False)

    def test_made_paths(self):
        source = random.Random(5)
        for _ in range(200):
            self.told(is_step, a_step(source), True)
            self.told(is_path, a_path(source), True)


if __name__ == "__main__":
    unittest.main()
