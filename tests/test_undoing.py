"""[18], [19], [20]: UNDOINGS by kind, done, and between two DOCUMENTS."""

import copy
import random
import unittest

from pathfolios.errors import NoChange
from pathfolios.undoing import is_undoing, undoing_between, undone
from tests.makers import NO_VALUES, ODD_THINGS, a_document, a_value, shape_of


def tree(**fields):
    return ("tree", tuple(sorted(fields.items())))


def row(*things):
    return ("row", things)


BACKS = (("back", ("a",), 1), ("back", ("a",), None), ("back", (0,), None), ("back", ("a", 0, "b"), ("row", ())),
         ("back", (10 ** 59,), False), ("back", ("a",) * 40, ("tree", (("a", ""),))))
NO_PLACES = ((), [], ["a"], "a", None, 0, ("A",), ("",), ("abcdefghi",), (-1,), (True,), (False,), (None,), (("a",),),
             ([],), ("a", None), ("a", -1), (0, True), ("a", "B"), (1.0,))
NO_BACKS = ((), None, "back", ["back", ("a",), 1], ("back",), ("back", ("a",)), ("back", ("a",), 1, 1),
            ("Back", ("a",), 1), ("", ("a",), 1), (None, ("a",), 1), ([], ("a",), 1), ("set", ("a",), 1),
            ("back", 1, ("a",)), (("back", ("a",), 1),))


class Kinds(unittest.TestCase):
    def told(self, thing, so):
        self.assertIs(is_undoing(thing), so, repr(thing))

    def test_undoings(self):
        self.told((), True)
        self.told(BACKS, True)
        for back in BACKS:
            self.told((back,), True)

    def test_no_undoings(self):
        for thing in ODD_THINGS + BACKS + NO_BACKS[1:-1] + (list(BACKS), [], (BACKS,), (list(BACKS[0]),)):
            self.told(thing, False)
        for back in NO_BACKS + ODD_THINGS:
            self.told((back,), False)
            self.told((BACKS[0], back), False)
            self.told((back, BACKS[0]), False)

    def test_wrong_parts(self):
        for place in NO_PLACES:
            self.told((("back", place, 1),), False)
            self.told((("back", place, None),), False)
        for value in NO_VALUES:
            self.told((("back", ("a",), value),), value is None)


class Done(unittest.TestCase):
    def leads(self, document, undoing, told):
        ahead = copy.deepcopy((document, undoing))
        self.assertEqual(shape_of(undone(document, undoing)), shape_of(told))
        self.assertEqual(shape_of((document, undoing)), shape_of(ahead))

    def refused(self, document, back):
        """A triple that can't be done, alone, and at each number among others."""
        fine = ("back", ("zz",), 1)
        for number, undoing in ((0, (back,)), (0, (back, fine)), (1, (fine, back)), (2, (fine, fine, back, back))):
            ahead = copy.deepcopy((document, undoing))
            with self.assertRaises(NoChange) as caught:
                undone(document, undoing)
            self.assertEqual(shape_of((caught.exception.word, caught.exception.at)), shape_of(("place", number)))
            self.assertEqual(shape_of((document, undoing)), shape_of(ahead))

    def test_nothing(self):
        self.leads(tree(a=1), (), tree(a=1))

    def test_fields(self):
        self.leads(tree(a=1), (("back", ("a",), 2),), tree(a=2))
        self.leads(tree(b=1), (("back", ("a",), row()),), tree(a=row(), b=1))
        self.leads(tree(a=1, b=2), (("back", ("a",), None),), tree(b=2))
        self.leads(tree(a=1), (("back", ("a",), None),), tree())
        self.leads(tree(a=tree(c=1)), (("back", ("a", "b"), 2),), tree(a=tree(b=2, c=1)))
        self.leads(tree(r=row(1, tree(a=1, b=1))), (("back", ("r", 1, "a"), None),), tree(r=row(1, tree(b=1))))

    def test_things_of_rows(self):
        self.leads(tree(r=row(1, 2)), (("back", ("r", 1), tree()),), tree(r=row(1, tree())))
        self.leads(tree(r=row(row(1), 2)), (("back", ("r", 0, 0), True),), tree(r=row(row(True), 2)))

    def test_each_at_what_stands_behind_those_ahead(self):
        self.leads(tree(), (("back", ("a",), row(0)), ("back", ("a", 0), tree()), ("back", ("a", 0, "b"), 1)),
                   tree(a=row(tree(b=1))))
        self.leads(tree(a=1), (("back", ("a",), None), ("back", ("a",), 2)), tree(a=2))
        with self.assertRaises(NoChange) as caught:
            undone(tree(a=1), (("back", ("a",), None), ("back", ("b",), 1), ("back", ("a",), None)))
        self.assertEqual((caught.exception.word, caught.exception.at), ("place", 2))

    def test_no_holder(self):
        document = tree(a=1, r=row(1, row()), t=tree())
        for place in (("b", "c"), ("a", "c"), ("a", 0), ("r", "a"), ("r", 2), ("r", 1, 0), ("r", 0, 0), ("r", 2, 0),
                      ("t", 0), (0,), ("t", "a", "b"), ("r", 1, "a"), ("b", 0), ("t", "a", 0)):
            for value in (1, row(), None):
                self.refused(document, ("back", place, value))

    def test_none_where_it_may_not_stand(self):
        self.refused(tree(r=row(1)), ("back", ("r", 0), None))
        self.refused(tree(r=row(1)), ("back", ("b",), None))
        self.refused(tree(t=tree()), ("back", ("t", "b"), None))

    def test_far_beyond(self):
        self.refused(tree(a=1), ("back", ("a",) * 2000, 1))


class Between(unittest.TestCase):
    def told(self, one, other, undoing):
        ahead = copy.deepcopy((one, other))
        answer = undoing_between(one, other)
        self.assertEqual(shape_of(answer), shape_of(undoing))
        self.assertIs(type(answer), tuple)
        self.assertEqual(shape_of((one, other)), shape_of(ahead))

    def test_like_ones(self):
        source = random.Random(1)
        for document in [tree(), tree(a=row(True, 1))] + [a_document(source) for _ in range(50)]:
            self.told(document, copy.deepcopy(document), ())

    def test_fields_put_and_gone_and_turned(self):
        self.told(tree(), tree(a=1), (("back", ("a",), 1),))
        self.told(tree(a=1), tree(), (("back", ("a",), None),))
        self.told(tree(a=1), tree(a=2), (("back", ("a",), 2),))
        self.told(tree(a=1), tree(a=True), (("back", ("a",), True),))
        self.told(tree(a=False), tree(a=0), (("back", ("a",), 0),))
        self.told(tree(b=1, c=2, d=3, f=5), tree(a=0, c=2, d=4, e=5),
                  (("back", ("a",), 0), ("back", ("b",), None), ("back", ("d",), 4), ("back", ("e",), 5),
                   ("back", ("f",), None)))

    def test_within_trees(self):
        self.told(tree(a=tree(b=1, c=tree(d=2))), tree(a=tree(b=1, c=tree(d=3, e=4))),
                  (("back", ("a", "c", "d"), 3), ("back", ("a", "c", "e"), 4)))
        self.told(tree(a=tree(b=1)), tree(a=tree()), (("back", ("a", "b"), None),))
        self.told(tree(a=tree()), tree(a=tree(b=1)), (("back", ("a", "b"), 1),))

    def test_within_rows_of_as_many(self):
        self.told(tree(a=row(1, 2, 3)), tree(a=row(1, 5, 3)), (("back", ("a", 1), 5),))
        self.told(tree(a=row(1, tree(b=1))), tree(a=row(True, tree(c=1))),
                  (("back", ("a", 0), True), ("back", ("a", 1, "b"), None), ("back", ("a", 1, "c"), 1)))
        self.told(tree(a=row(row(1, 2))), tree(a=row(row(1, 3))), (("back", ("a", 0, 1), 3),))

    def test_rows_of_more_and_less(self):
        for one, other in ((row(1), row(1, 2)), (row(1, 2), row(1)), (row(), row(1)), (row(1), row())):
            self.told(tree(a=one), tree(a=other), (("back", ("a",), other),))
            self.told(tree(a=row(0, one)), tree(a=row(0, other)), (("back", ("a", 1), other),))

    def test_unlike_kinds(self):
        values = (1, "", True, row(), row(1), tree(), tree(a=1))
        for one in values:
            for other in values:
                if one[:1] != other[:1] if isinstance(one, tuple) and isinstance(other, tuple) else one is not other:
                    self.told(tree(a=one), tree(a=other), (("back", ("a",), other),))

    def test_long_rows_rise_by_numbers(self):
        one = tree(a=("row", tuple(range(12))))
        other = tree(a=("row", tuple(range(1, 13))))
        self.told(one, other, tuple([("back", ("a", k), k + 1) for k in range(12)]))

    def test_there_and_back(self):
        source = random.Random(20)
        for _ in range(500):
            one = a_document(source)
            other = a_document(source) if source.randrange(2) else near(source, one)
            there, back = undoing_between(one, other), undoing_between(other, one)
            for undoing in (there, back):
                self.assertTrue(is_undoing(undoing))
                places = [place for _, place, _ in undoing]
                self.assertEqual(places, sorted(places))
                for k, place in enumerate(places):
                    for longer in places[:k] + places[k + 1:]:
                        self.assertNotEqual(longer[:len(place)], place)
            self.assertEqual(shape_of(undone(one, there)), shape_of(other))
            self.assertEqual(shape_of(undone(other, back)), shape_of(one))
            self.assertEqual([place for _, place, _ in there], [place for _, place, _ in back])


def near(source, value):
    """A VALUE of which something has been turned within."""
    if not isinstance(value, tuple) or not value[1] or source.randrange(6) == 0:
        return a_value(source, 1) if not (isinstance(value, tuple) and value[0] == "tree") else value
    turned = source.randrange(len(value[1]))
    if value[0] == "row":
        return ("row", tuple([near(source, part) if k == turned else part for k, part in enumerate(value[1])]))
    return ("tree", tuple([(word, near(source, part)) if k == turned else (word, part)
                           for k, (word, part) in enumerate(value[1])]))


if __name__ == "__main__":
    unittest.main()
