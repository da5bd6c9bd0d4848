"""[24]: other WORDS put, one to one, for those that are fields."""

import random
import unittest

from pathfolios.changing import changed
from pathfolios.errors import NoChange
from pathfolios.finding import found_in
from pathfolios.meeting import count_parts, meets
from pathfolios.undoing import undone
from tests.makers import (WORDS, a_change, a_document, a_path_in, a_test, shape_of, swapped, swapped_change,
                          swapped_path, swapped_place, swapped_test)

BACKWARDS = dict(zip(sorted(WORDS), sorted(WORDS, reverse=True)))
OTHERS = dict(zip(WORDS, ("like", "q", "there", "each", "row", "tree", "a", "back", "m")))


def outcome(document, change):
    try:
        return changed(document, change, told=True)
    except NoChange as refusal:
        return (refusal.word, refusal.at)


class Swapping(unittest.TestCase):
    def setUp(self):
        self.source = random.Random(24)

    def test_a_few(self):
        document = ("tree", (("a", ("row", (("tree", (("a", 1), ("b", "a"))), 2))), ("b", "b")))
        told = ("tree", (("a", "b"), ("b", ("row", (("tree", (("a", "a"), ("b", 1))), 2)))))
        names = {"a": "b", "b": "a"}
        self.assertEqual(swapped(document, names), told)
        path = (("field", "a"), ("where", "b", "a"), ("field", "a"))
        self.assertEqual(found_in(document, path), ((("a", 0, "a"), 1),))
        self.assertEqual(found_in(told, swapped_path(path, names)), ((("b", 0, "b"), 1),))
        self.assertEqual(changed(document, (None, (("rename", (("field", "a"),), "c"),))),
                         ("tree", (("b", "b"), ("c", document[1][0][1]))))
        self.assertEqual(changed(told, (None, (("rename", (("field", "b"),), "c"),))),
                         ("tree", (("a", "b"), ("c", told[1][1][1]))))

    def test_found(self):
        for names in (BACKWARDS, OTHERS):
            for _ in range(200):
                document = a_document(self.source)
                path = a_path_in(self.source, document)
                told = [(swapped_place(place, names), swapped(held, names)) for place, held in found_in(document, path)]
                answer = found_in(swapped(document, names), swapped_path(path, names))
                self.assertEqual(shape_of(answer), shape_of(tuple(told)))

    def test_met(self):
        for names in (BACKWARDS, OTHERS):
            for _ in range(300):
                document = a_document(self.source)
                test = a_test(self.source, document, 3)
                other = swapped_test(test, names)
                self.assertIs(meets(document, test), meets(swapped(document, names), other))
                self.assertEqual(count_parts(test), count_parts(other))

    def test_changed_and_refused(self):
        done = 0
        for names in (BACKWARDS, OTHERS):
            for _ in range(400):
                document = a_document(self.source)
                change = a_change(self.source, document)
                ahead = outcome(document, change)
                answer = outcome(swapped(document, names), swapped_change(change, names))
                if isinstance(ahead[0], str):
                    self.assertEqual(answer, ahead)
                    continue
                done += 1
                self.assertEqual(shape_of(answer[0]), shape_of(swapped(ahead[0], names)))
                backs = [("back", swapped_place(place, names), held if held is None else swapped(held, names))
                         for _, place, held in ahead[1]]
                self.assertEqual(sorted(map(shape_of, answer[1])), sorted(map(shape_of, backs)))
                self.assertEqual(shape_of(undone(*answer)), shape_of(swapped(document, names)))
        self.assertGreater(done, 100)


if __name__ == "__main__":
    unittest.main()
