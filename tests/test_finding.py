"""[5], [12], [14]: what PATHS find, and what stands at PLACES."""

import copy
import random
import unittest

from pathfolios.finding import found_in, value_at
from tests.makers import a_path, a_path_in, a_value, shape_of

ROW = ("row", (5, True, ("tree", (("k", 1), ("n", "x"))), ("tree", (("k", True),)), ("row", (1, 2)), 5))
TREE = ("tree", (("a", ROW), ("b", ("tree", (("a", 3), ("c", "y")))), ("c", -1)))
OTHERS = (7, False, "a", "", 0)


def all_places(value, place=()):
    """All that stands in a VALUE, itself too, as pairs (PLACE, VALUE), in order."""
    told = [(place, value)]
    if isinstance(value, tuple):
        pairs = value[1] if value[0] == "tree" else enumerate(value[1])
        for marker, held in pairs:
            told += all_places(held, place + (marker,))
    return told


def comes(value, step, marker, held):
    """Whether a VALUE that stands by a MARKER in another one comes by a STEP, told one by one."""
    if step[0] == "field":
        return value[0] == "tree" and marker == step[1]
    if value[0] != "row":
        return False
    if step[0] == "at":
        return marker == step[1]
    if step[0] == "each":
        return True
    if not isinstance(held, tuple) or held[0] != "tree":
        return False
    return shape_of(step[2]) in [shape_of(part) for word, part in held[1] if word == step[1]]


def is_found(value, path, place):
    for step, marker in zip(path, place):
        held = value_at(value, (marker,))
        if not comes(value, step, marker, held):
            return False
        value = held
    return True


class Found(unittest.TestCase):
    def found(self, value, path, told):
        ahead = copy.deepcopy((value, path))
        answer = found_in(value, path)
        self.assertEqual(shape_of(answer), shape_of(told))
        self.assertIs(type(answer), tuple)
        self.assertEqual(shape_of((value, path)), shape_of(ahead))

    def test_field(self):
        self.found(TREE, (("field", "c"),), ((("c",), -1),))
        self.found(TREE, (("field", "a"),), ((("a",), ROW),))
        self.found(TREE, (("field", "d"),), ())
        self.found(("tree", ()), (("field", "a"),), ())

    def test_at(self):
        self.found(ROW, (("at", 0),), (((0,), 5),))
        self.found(ROW, (("at", 5),), (((5,), 5),))
        self.found(ROW, (("at", 6),), ())
        self.found(ROW, (("at", 10 ** 59),), ())
        self.found(("row", ()), (("at", 0),), ())

    def test_each(self):
        self.found(ROW, (("each",),), tuple([((k,), thing) for k, thing in enumerate(ROW[1])]))
        self.found(("row", ()), (("each",),), ())

    def test_where(self):
        self.found(ROW, (("where", "k", 1),), (((2,), ROW[1][2]),))
        self.found(ROW, (("where", "k", True),), (((3,), ROW[1][3]),))
        self.found(ROW, (("where", "n", "x"),), (((2,), ROW[1][2]),))
        self.found(ROW, (("where", "n", "y"),), ())
        self.found(ROW, (("where", "q", 1),), ())
        self.found(("row", ()), (("where", "k", 1),), ())

    def test_where_finds_no_plain_that_is_only_equal(self):
        for plain, other in ((1, True), (0, False), (True, 1), (False, 0)):
            row = ("row", (("tree", (("k", plain),)),))
            self.found(row, (("where", "k", other),), ())
            self.found(row, (("where", "k", plain),), (((0,), row[1][0]),))

    def test_where_finds_several_in_order(self):
        tree = ("tree", (("k", "z"), ("n", 2)))
        row = ("row", (tree, 1, ("row", (tree,)), ("tree", (("k", ("row", ("z",))),)), tree))
        self.found(row, (("where", "k", "z"),), (((0,), tree), ((4,), tree)))

    def test_values_of_other_kinds(self):
        for value in OTHERS:
            for step in (("field", "a"), ("at", 0), ("each",), ("where", "a", 1)):
                self.found(value, (step,), ())
        self.found(ROW, (("field", "k"),), ())
        for step in (("at", 0), ("each",), ("where", "a", 3), ("where", "c", -1)):
            self.found(TREE, (step,), ())

    def test_several_steps(self):
        self.found(TREE, (("field", "b"), ("field", "a")), ((("b", "a"), 3),))
        self.found(TREE, (("field", "a"), ("each",), ("field", "k")), ((("a", 2, "k"), 1), (("a", 3, "k"), True)))
        self.found(TREE, (("field", "a"), ("at", 4), ("each",)), ((("a", 4, 0), 1), (("a", 4, 1), 2)))
        self.found(TREE, (("field", "a"), ("each",), ("each",)), ((("a", 4, 0), 1), (("a", 4, 1), 2)))
        self.found(TREE, (("field", "a"), ("where", "k", True), ("field", "k")), ((("a", 3, "k"), True),))
        self.found(TREE, (("field", "c"), ("field", "a")), ())
        self.found(TREE, (("field", "d"), ("each",)), ())

    def test_order(self):
        rows = ("row", (("row", (1, 2)), 9, ("row", ()), ("row", (3,))))
        self.found(rows, (("each",), ("each",)), (((0, 0), 1), ((0, 1), 2), ((3, 0), 3)))
        long = ("row", tuple(range(20, 0, -1)))
        self.found(long, (("each",),), tuple([((k,), 20 - k) for k in range(20)]))

    def test_just_those_that_steps_tell(self):
        source = random.Random(12)
        for _ in range(400):
            value = a_value(source, 4)
            path = a_path_in(source, value) if source.randrange(2) else a_path(source)
            told = [(place, held) for place, held in all_places(value)
                    if len(place) == len(path) and is_found(value, path, place)]
            self.found(value, path, tuple(told))

    def test_places_are_unlike_and_as_long_as_the_path(self):
        source = random.Random(14)
        for _ in range(300):
            value = a_value(source, 4)
            path = a_path_in(source, value)
            found = found_in(value, path)
            places = [place for place, _ in found]
            self.assertEqual(len(set(places)), len(places))
            for place, held in found:
                self.assertIs(type(place), tuple)
                self.assertEqual(len(place), len(path))
                self.assertEqual(shape_of(value_at(value, place)), shape_of(held))

    def test_a_path_behind_another_one(self):
        source = random.Random(15)
        for _ in range(300):
            value = a_value(source, 4)
            path = a_path_in(source, value, 2)
            found = found_in(value, path)
            other = a_path_in(source, found[0][1], 2) if found else a_path(source)
            told = [(place + behind, thing) for place, held in found for behind, thing in found_in(held, other)]
            self.found(value, path + other, tuple(told))

    def test_a_document_of_the_document(self):
        self.found(TREE, (("field", "b"), ("field", "c")), ((("b", "c"), "y"),))


class At(unittest.TestCase):
    def at(self, value, place, told):
        ahead = copy.deepcopy((value, place))
        self.assertEqual(shape_of(value_at(value, place)), shape_of(told))
        self.assertEqual(shape_of((value, place)), shape_of(ahead))

    def test_the_value_itself(self):
        for value in (TREE, ROW, 0, False, "", ("row", ()), ("tree", ())):
            self.at(value, (), value)

    def test_along_what_is_there(self):
        self.at(TREE, ("c",), -1)
        self.at(TREE, ("a",), ROW)
        self.at(TREE, ("a", 2, "n"), "x")
        self.at(TREE, ("a", 3, "k"), True)
        self.at(TREE, ("a", 4, 1), 2)
        self.at(("row", (False, 0)), (0,), False)
        self.at(("row", (False, 0)), (1,), 0)

    def test_missing_markers(self):
        for place in (("d",), ("a", 6), ("a", 10 ** 59), ("a", 2, "q"), ("b", "b"), ("d", "a"), ("a", 6, "k")):
            self.at(TREE, place, None)
        self.at(("row", ()), (0,), None)
        self.at(("tree", ()), ("a",), None)

    def test_markers_of_the_other_kind(self):
        for place in ((0,), ("a", "k"), ("a", 2, 0), ("b", 0), ("a", 4, "a")):
            self.at(TREE, place, None)

    def test_in_plains(self):
        for plain in OTHERS:
            for place in ((0,), ("a",), ("a", 0)):
                self.at(plain, place, None)
        self.at(TREE, ("c", 0), None)
        self.at(TREE, ("c", "a"), None)

    def test_all_that_stands(self):
        source = random.Random(13)
        for _ in range(100):
            value = a_value(source, 4)
            for place, held in all_places(value):
                self.at(value, place, held)
                self.at(value, place + ("dd",), None)
                self.at(value, place + (9,), None)


if __name__ == "__main__":
    unittest.main()
