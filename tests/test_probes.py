"""[5], [10], [13], [14]: TESTS by kind, which DOCUMENTS MEET them, and how many PARTS they have."""

import copy
import random
import unittest

from pathfolios.bounds import NONE_BUT
from pathfolios.finding import found_in
from pathfolios.meeting import count_parts, meets
from pathfolios.probes import is_test
from tests.makers import (NO_PATHS, NO_PLAINS, NO_VALUES, ODD_THINGS, PLAINS, a_document, a_path_in, a_test, a_value,
                          shape_of)

A = (("field", "a"),)
EACH = (("field", "r"), ("each",))
ALWAYS = ("and", ())
NEVER = ("or", ())
TESTS = (("there", A), ("like", A, 1), ("like", A, ("row", ())), ("like", A, ("tree", (("a", True),))),
         ("below", A, 1), ("below", A, True), ("below", A, ""), ("above", A, -1), ("above", A, "x"),
         ("not", ("there", A)), ("and", ()), ("or", ()), ("and", (("there", A),)), ("or", (("there", A), ("and", ()))),
         ("not", ("not", ("or", (("like", A, 1), ("not", ("and", ())))))))
NO_TESTS = (
    (), "there", ["there", A], ("there",), ("there", A, 1), ("There", A), ("where", A), ("", A), (None, A), (1, A),
    ([], A), (("there",), A), (("there", A),), [("there", A)],
    ("like", A), ("like", A, 1, 1), ("like", 1, A), ["like", A, 1], ("like",),
    ("below", A), ("below", A, 1, 1), ["below", A, 1], ("above", A), ("above", A, 1, 1), ["above", A, 1],
    ("not",), ("not", None), ("not", ()), ("not", "there"), ("not", ("there", A), ("there", A)),
    ("not", (("there", A),)), ("not", ["there", A]), ["not", ("there", A)],
    ("and",), ("and", None), ("and", []), ("and", [("there", A)]), ("and", ("there", A)), ("and", (), ()),
    ("and", ("there", A), ("there", A)), ("and", (None,)), ("and", (("there", A), None)), ["and", ()],
    ("or",), ("or", None), ("or", []), ("or", [("there", A)]), ("or", ("there", A)), ("or", (), ()),
    ("or", ("there", A), ("there", A)), ("or", ((),)), ("or", (("there", A), ["there", A])), ["or", ()],
)


def tree(**fields):
    return ("tree", tuple(sorted(fields.items())))


def row(*things):
    return ("row", things)


class Kinds(unittest.TestCase):
    def told(self, thing, so):
        self.assertIs(is_test(thing), so, repr(thing))

    def test_tests(self):
        for test in TESTS:
            self.told(test, True)
            self.told(("not", test), True)
        self.told(("and", TESTS), True)
        self.told(("or", TESTS), True)
        self.told(NONE_BUT, True)

    def test_no_tests(self):
        for thing in NO_TESTS + ODD_THINGS:
            self.told(thing, False)
            self.told(("not", thing), False)
            self.told(("and", (("there", A), thing)), False)
            self.told(("or", (thing, ("there", A))), False)

    def test_wrong_parts(self):
        for wrong in NO_PATHS:
            for test in (("there", wrong), ("like", wrong, 1), ("below", wrong, 1), ("above", wrong, 1)):
                self.told(test, False)
        for wrong in NO_VALUES:
            self.told(("like", A, wrong), False)
        for wrong in NO_PLAINS:
            self.told(("below", A, wrong), False)
            self.told(("above", A, wrong), False)

    def test_whatever_is_bounded(self):
        self.told(("and", (("there", A),) * 500), True)
        self.told(("there", (("each",),) * 500), True)
        deep = ("there", A)
        for _ in range(26):
            deep = ("not", deep)
        self.told(deep, True)
        deep = None
        for _ in range(28):
            deep = ("not", deep)
        self.told(deep, False)

    def test_made_tests(self):
        source = random.Random(10)
        for _ in range(300):
            self.told(a_test(source, a_document(source), 3), True)


class Meeting(unittest.TestCase):
    def met(self, document, test, so):
        ahead = copy.deepcopy((document, test))
        self.assertIs(meets(document, test), so, (document, test))
        self.assertIs(meets(document, ("not", test)), not so, (document, test))
        self.assertEqual(shape_of((document, test)), shape_of(ahead))

    def test_there(self):
        self.met(tree(a=0), ("there", A), True)
        self.met(tree(a=row()), ("there", A), True)
        self.met(tree(b=0), ("there", A), False)
        self.met(tree(r=row()), ("there", EACH), False)
        self.met(tree(r=row(False)), ("there", EACH), True)

    def test_like(self):
        self.met(tree(a=1), ("like", A, 1), True)
        self.met(tree(a=2), ("like", A, 1), False)
        self.met(tree(b=1), ("like", A, 1), False)
        self.met(tree(a=row(1)), ("like", A, row(1)), True)
        self.met(tree(a=row(1)), ("like", A, 1), False)
        self.met(tree(r=row(3, 2, 1)), ("like", EACH, 1), True)
        self.met(tree(r=row(3, 2)), ("like", EACH, 1), False)

    def test_like_of_truths_and_numbers(self):
        for truth, number in ((True, 1), (False, 0)):
            for one, other in ((truth, number), (number, truth)):
                self.met(tree(a=one), ("like", A, other), False)
                self.met(tree(a=one), ("like", A, one), True)
                self.met(tree(a=tree(b=row(one))), ("like", A, tree(b=row(other))), False)

    def test_below_and_above(self):
        for low, high in ((1, 2), (-5, -4), (False, True), ("", "a"), ("a", "b"), ("10", "9"), ("9", "a"), ("a", "aa")):
            self.met(tree(a=low), ("below", A, high), True)
            self.met(tree(a=high), ("below", A, low), False)
            self.met(tree(a=high), ("above", A, low), True)
            self.met(tree(a=low), ("above", A, high), False)
            for plain in (low, high):
                self.met(tree(a=plain), ("below", A, plain), False)
                self.met(tree(a=plain), ("above", A, plain), False)

    def test_plains_of_unlike_kinds(self):
        for one, other in ((False, 1), (True, 0), (0, True), (2, True), (1, "a"), ("", 0), (True, "a"), ("", False)):
            self.met(tree(a=one), ("below", A, other), False)
            self.met(tree(a=one), ("above", A, other), False)

    def test_rows_and_trees_are_below_and_above_nothing(self):
        for value in (row(), row(1), tree(), tree(a=1)):
            for plain in PLAINS:
                self.met(tree(a=value), ("below", A, plain), False)
                self.met(tree(a=value), ("above", A, plain), False)

    def test_one_of_several_is_enough(self):
        document = tree(r=row("z", 5, True, row(1), 9))
        self.met(document, ("below", EACH, 6), True)
        self.met(document, ("below", EACH, 5), False)
        self.met(document, ("above", EACH, 8), True)
        self.met(document, ("above", EACH, 9), False)
        self.met(document, ("above", EACH, "y"), True)
        self.met(document, ("above", EACH, False), True)

    def test_not_and_or(self):
        document = tree(a=1)
        so, other = ("like", A, 1), ("like", A, 2)
        self.met(document, ("not", so), False)
        self.met(document, ("not", ("not", so)), True)
        for word, parts, told in (("and", (so,), True), ("and", (other,), False), ("and", (so, so), True),
                                  ("and", (so, other), False), ("and", (other, so), False), ("or", (so,), True),
                                  ("or", (other,), False), ("or", (other, so), True), ("or", (so, other), True),
                                  ("or", (other, other), False)):
            self.met(document, (word, parts), told)

    def test_none_and_all(self):
        source = random.Random(1)
        for document in [tree(), tree(a=1)] + [a_document(source) for _ in range(20)]:
            self.met(document, ALWAYS, True)
            self.met(document, NEVER, False)
            self.met(document, NONE_BUT, True)

    def test_of_what_is_found(self):
        source = random.Random(2)
        for _ in range(300):
            document = a_document(source)
            path = a_path_in(source, document)
            held = [shape_of(value) for _, value in found_in(document, path)]
            value = a_value(source, 1)
            self.met(document, ("there", path), len(held) > 0)
            self.met(document, ("like", path, value), shape_of(value) in held)


class Parts(unittest.TestCase):
    def test_parts(self):
        there = ("there", A)
        for test, many in ((there, 1), (("like", A, 1), 1), (("like", A, ("row", (1, 2))), 1), (("below", A, 1), 1),
                           (("above", A, 1), 1), (ALWAYS, 1), (NEVER, 1), (("not", there), 2),
                           (("not", ("not", there)), 3), (("and", (there,)), 2), (("or", (there, there)), 3),
                           (("and", (there, ("or", (there, ("not", ALWAYS))))), 6), (("not", NEVER), 2)):
            self.assertEqual(count_parts(test), many)
            self.assertIs(type(count_parts(test)), int)

    def test_parts_of_parts(self):
        source = random.Random(3)
        for _ in range(100):
            parts = tuple([a_test(source, a_document(source), 3) for _ in range(3)])
            told = 1 + sum([count_parts(part) for part in parts])
            self.assertEqual(count_parts(("and", parts)), told)
            self.assertEqual(count_parts(("or", parts)), told)
            self.assertEqual(count_parts(("not", ("or", parts))), told + 1)


if __name__ == "__main__":
    unittest.main()
