"""[4], [10], [11]: PLAINS, VALUES, DOCUMENTS, which are LIKE, and KEYS."""

import copy
import random
import unittest

from pathfolios.values import is_document, is_like, is_plain, is_value, key_of
from tests.makers import ODD_THINGS, PLAINS, a_document, a_value, shape_of


def nested(depth, made):
    value = 0
    for _ in range(depth):
        value = made(value)
    return value


def row_around(value):
    return ("row", (value,))


def tree_around(value):
    return ("tree", (("a", value),))


class Kinds(unittest.TestCase):
    def told(self, look, thing, so):
        self.assertIs(look(thing), so, repr(thing))

    def test_plains(self):
        for thing in (0, -5, 10 ** 59, True, False, "", "a1", "x" * 16):
            self.told(is_plain, thing, True)
            self.told(is_value, thing, True)
            self.told(is_document, thing, False)

    def test_no_plains(self):
        for thing in (None, "x" * 17, "A", "a b", (), [], ("row", ()), ("tree", ()), (1,), 1.0, b"a"):
            self.told(is_plain, thing, False)

    def test_rows(self):
        for thing in (("row", ()), ("row", (1,)), ("row", (1, True, "", "a")), ("row", (("row", ()), ("tree", ()))),
                      ("row", (2, 1, 1))):
            self.told(is_value, thing, True)
            self.told(is_document, thing, False)
            self.told(is_plain, thing, False)

    def test_trees(self):
        for thing in (("tree", ()), ("tree", (("a", 1),)), ("tree", (("a", 1), ("b", ("row", (1,))))),
                      ("tree", (("a", ("tree", ())), ("ab", True), ("b", "")))):
            self.told(is_value, thing, True)
            self.told(is_document, thing, True)
            self.told(is_plain, thing, False)

    def test_no_values(self):
        for thing in ODD_THINGS:
            self.told(is_value, thing, False)
            self.told(is_document, thing, False)

    def test_lists_are_no_tuples(self):
        for thing in (["row", ()], ("row", [1]), ("row", (1, [2])), ("tree", [("a", 1)]), ("tree", (["a", 1],)),
                      ["tree", (("a", 1),)], ("tree", (("a", ["row", ()]),))):
            self.told(is_value, thing, False)
            self.told(is_document, thing, False)

    def test_too_short_and_too_long(self):
        for thing in ((), ("row",), ("row", (), 1), ("row", 1, 2), ("tree",), ("tree", (), ()), ("tree", ((),)),
                      ("tree", (("a",),)), ("tree", (("a", 1, 2),))):
            self.told(is_value, thing, False)

    def test_fields_have_to_rise_and_be_unlike(self):
        for thing in (("tree", (("b", 1), ("a", 1))), ("tree", (("a", 1), ("a", 1))), ("tree", (("a", 1), ("a", 2))),
                      ("tree", (("a", 1), ("c", 1), ("b", 1))), ("tree", (("b", 1), ("ab", 1)))):
            self.told(is_value, thing, False)
            self.told(is_document, thing, False)

    def test_fields_are_words_with_values(self):
        for field in (("", 1), ("A", 1), ("abcdefghi", 1), ("a1", 1), (1, 1), (None, 1), (("a",), 1), ([], 1),
                      ("a", None), ("a", "A"), ("a", ()), ("a", []), ("a", ("row",))):
            self.told(is_value, ("tree", (field,)), False)
            self.told(is_value, ("tree", (("a", 1), field)), False)

    def test_things_that_cannot_be_compared(self):
        for thing in (("tree", (("a", 1), (1, "a"))), ("tree", ((1, 1), ("a", 1))), ("tree", ((None, 1), ("a", 1))),
                      ("tree", ((("a",), 1), ("a", 1))), ("tree", (("a", 1), ([], 1)))):
            self.told(is_value, thing, False)
            self.told(is_document, thing, False)

    def test_things_within_are_looked_at(self):
        for wrong in (None, "A", (), [1], "x" * 17, ("row", (None,)), ("tree", (("b", 1), ("a", 1)))):
            self.told(is_value, ("row", (1, wrong)), False)
            self.told(is_value, ("row", (wrong, 1)), False)
            self.told(is_value, ("tree", (("a", wrong), ("b", 1))), False)
            self.told(is_document, ("tree", (("a", 1), ("b", wrong))), False)

    def test_deep_things(self):
        for depth in (1, 5, 14, 60):
            self.told(is_value, nested(depth, row_around), True)
            self.told(is_document, nested(depth, tree_around), True)
            self.told(is_value, row_around(nested(depth, row_around)[1]), False)
        deep = None
        for _ in range(29):
            deep = (deep,)
        self.told(is_value, deep, False)

    def test_many_things(self):
        self.told(is_value, ("row", tuple(range(4900))), True)
        self.told(is_value, ("row", tuple(range(4900)) + (None,)), False)

    def test_made_things(self):
        source = random.Random(4)
        for _ in range(300):
            self.told(is_value, a_value(source), True)
            self.told(is_document, a_document(source), True)


class Likeness(unittest.TestCase):
    def test_truths_are_not_like_numbers(self):
        for truth, number in ((True, 1), (False, 0)):
            for wrap in (lambda x: x, row_around, tree_around, lambda x: row_around(tree_around(row_around(x))),
                         lambda x: ("row", (7, x)), lambda x: ("tree", (("a", 1), ("b", x)))):
                self.assertIs(is_like(wrap(truth), wrap(number)), False)
                self.assertIs(is_like(wrap(number), wrap(truth)), False)
                self.assertIs(is_like(wrap(truth), wrap(truth)), True)
                self.assertIs(is_like(wrap(number), wrap(number)), True)

    def test_unlike_plains(self):
        for one in PLAINS:
            for other in PLAINS:
                self.assertIs(is_like(one, other), shape_of(one) == shape_of(other), (one, other))

    def test_kinds_and_lengths(self):
        things = (1, "", "row", "tree", ("row", ()), ("tree", ()), ("row", (1,)), ("row", (1, 1)), ("row", (2, 1)),
                  ("row", (1, 2)), ("tree", (("a", 1),)), ("tree", (("b", 1),)), ("tree", (("a", 2),)),
                  ("tree", (("a", 1), ("b", 1))), ("row", (("row", ()),)), ("row", (("tree", ()),)))
        for k, one in enumerate(things):
            for j, other in enumerate(things):
                self.assertIs(is_like(one, other), k == j, (one, other))

    def test_made_values(self):
        source = random.Random(11)
        values = [a_value(source) for _ in range(60)]
        for one in values:
            self.assertIs(is_like(one, copy.deepcopy(one)), True)
            for other in values:
                self.assertIs(is_like(one, other), shape_of(one) == shape_of(other))


class Keys(unittest.TestCase):
    def test_keys(self):
        for plain, key in ((True, (0, True)), (False, (0, False)), (0, (1, 0)), (1, (1, 1)), (-3, (1, -3)),
                           ("", (2, "")), ("a1", (2, "a1"))):
            told = key_of(plain)
            self.assertEqual(shape_of(told), shape_of(key))
            self.assertIs(type(told), tuple)

    def test_how_they_rise(self):
        rising = [False, True, -10 ** 59, -7, 0, 1, 12, 10 ** 59, "", "0", "10", "9", "a", "a0", "aa", "b"]
        mixed = list(rising)
        random.Random(7).shuffle(mixed)
        self.assertEqual(shape_of(sorted(mixed, key=key_of)), shape_of(rising))


if __name__ == "__main__":
    unittest.main()
