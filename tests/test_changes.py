"""[6], [10]: DEEDS and CHANGES by kind."""

import random
import unittest

from pathfolios.changes import is_change, is_deed
from tests.makers import (NO_NUMBERS, NO_PATHS, NO_VALUES, NO_WORDS, ODD_THINGS, a_change, a_deed, a_document)

A = (("field", "a"),)
TAILS = ((("field", "z"),), (("at", 0),), (("each",),), (("where", "k", True),))
VALUES = (0, True, "", ("row", ()), ("tree", (("a", ("row", (1,))),)))
DEEDS = (("set", A, 1), ("unset", A), ("add", A, -1), ("push", A, ("row", ())), ("pull", A, True), ("rename", A, "b"))
NO_DEEDS = (
    (), "set", (None, A, 1), (1, A, 1), ("Set", A, 1), ("put", A, 1), ("", A, 1), ([], A, 1), (("set", A, 1),),
    ("set",), ("set", A), ("set", A, 1, 1), ["set", A, 1], ("set", 1, A),
    ("unset",), ("unset", A, 1), ("unset", A, None), ["unset", A],
    ("add",), ("add", A), ("add", A, 1, 1), ["add", A, 1], ("add", 1, A),
    ("push",), ("push", A), ("push", A, 1, 1), ["push", A, 1],
    ("pull",), ("pull", A), ("pull", A, 1, 1), ["pull", A, 1],
    ("rename",), ("rename", A), ("rename", A, "b", "c"), ["rename", A, "b"], ("rename", "b", A),
)
NO_TESTS = ((), [], "there", True, 0, ("there",), ("there", ()), ["there", A], ("not", None), ("and", None))


class Deeds(unittest.TestCase):
    def told(self, thing, so):
        self.assertIs(is_deed(thing), so, repr(thing))

    def test_deeds(self):
        for deed in DEEDS:
            self.told(deed, True)

    def test_by_each_last_step(self):
        for tail in TAILS:
            for path in (tail, A + tail, (("each",),) + tail):
                for value in VALUES:
                    for word in ("set", "push", "pull"):
                        self.told((word, path, value), True)
                self.told(("unset", path), True)
                for number in (0, 1, -1, 10 ** 59):
                    self.told(("add", path, number), True)
                self.told(("rename", path, "b"), tail[0][0] == "field")

    def test_no_deeds(self):
        for thing in NO_DEEDS + ODD_THINGS:
            self.told(thing, False)

    def test_wrong_parts(self):
        for path in NO_PATHS:
            for deed in (("set", path, 1), ("unset", path), ("add", path, 1), ("push", path, 1), ("pull", path, 1),
                         ("rename", path, "b")):
                self.told(deed, False)
        for value in NO_VALUES:
            for word in ("set", "push", "pull"):
                self.told((word, A, value), False)
        for number in NO_NUMBERS:
            self.told(("add", A, number), False)
        for word in NO_WORDS:
            self.told(("rename", A, word), False)

    def test_to_the_same_word(self):
        self.told(("rename", A, "a"), True)

    def test_made_deeds(self):
        source = random.Random(6)
        for _ in range(300):
            self.told(a_deed(source, a_document(source)), True)


class Changes(unittest.TestCase):
    def told(self, thing, so):
        self.assertIs(is_change(thing), so, repr(thing))

    def test_changes(self):
        for test in (None, ("there", A), ("and", ()), ("not", ("or", ()))):
            self.told((test, DEEDS), True)
            for deed in DEEDS:
                self.told((test, (deed,)), True)
        self.told((None, (DEEDS[0],) * 600), True)

    def test_no_changes(self):
        for thing in ODD_THINGS + DEEDS + NO_DEEDS + (
                DEEDS, (None,), (DEEDS,), (None, DEEDS, None), [None, DEEDS], (DEEDS, None), (None, None), (None, []),
                (None, DEEDS[0]), (None, list(DEEDS)), (None, DEEDS + (None,)), (None, (None,) + DEEDS),
                (None, DEEDS + (["unset", A],))):
            self.told(thing, False)

    def test_no_deeds_at_all(self):
        self.told((None, ()), False)
        self.told((("there", A), ()), False)

    def test_wrong_tests(self):
        for test in NO_TESTS:
            self.told((test, DEEDS), False)

    def test_wrong_deeds(self):
        for deed in NO_DEEDS:
            self.told((None, (deed,)), False)
            self.told((None, DEEDS + (deed,)), False)
            self.told((("there", A), (deed,) + DEEDS), False)

    def test_made_changes(self):
        source = random.Random(7)
        for _ in range(200):
            self.told(a_change(source, a_document(source)), True)


if __name__ == "__main__":
    unittest.main()
