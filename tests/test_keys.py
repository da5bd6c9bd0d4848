"""[4], [7], [32]: KEYS of a DOCUMENT by an INDEX, and the ROWS of an INDEX gone through anew."""

import random

from pathfolios.keys import keys_of, rows_of
from pathfolios.leading import led_all
from tests.checks import Checks, at, refusal_of, row, tree
from tests.makers import shape_of
from tests.pasts import a_paper, an_index, some_stands
from tests.plainly import plain_keys, plain_rows

EACH = at("r", "*")


class Keys(Checks):
    def keys(self, document, path, answer, test=None):
        for unique in (True, False):
            self.told(answer, keys_of, document, ("by", path, unique, test))

    def test_nothing_is_found(self):
        self.keys(tree(), at("a"), ())
        self.keys(tree(b=1), at("a"), ())
        self.keys(tree(r=row()), EACH, ())
        self.keys(tree(a=1), at("a", "b"), ())

    def test_one_is_found(self):
        self.keys(tree(a=7), at("a"), ((1, 7),))
        self.keys(tree(a=True), at("a"), ((0, True),))
        self.keys(tree(a=False), at("a"), ((0, False),))
        self.keys(tree(a=""), at("a"), ((2, ""),))
        self.keys(tree(r=row(3, "x")), at("r", 1), ((2, "x"),))

    def test_several_are_found(self):
        self.keys(tree(r=row("b", 10, "a", 9, -1)), EACH, ((1, -1), (1, 9), (1, 10), (2, "a"), (2, "b")))
        self.keys(tree(r=row("10", "9")), EACH, ((2, "10"), (2, "9")))

    def test_a_truth_a_number_and_a_text_have_keys_of_their_own(self):
        self.keys(tree(r=row("1", 1, True)), EACH, ((0, True), (1, 1), (2, "1")))
        self.keys(tree(r=row(True, 1, "1", 0, False, "0", "")), EACH,
                  ((0, False), (0, True), (1, 0), (1, 1), (2, ""), (2, "0"), (2, "1")))

    def test_each_once(self):
        self.keys(tree(r=row(2, 1, 2, 2, 1)), EACH, ((1, 1), (1, 2)))
        self.keys(tree(r=row(True, True, 1, 1)), EACH, ((0, True), (1, 1)))
        things = row(tree(a="x", k=1), tree(a="x", k=2), tree(a="w", k=1))
        self.keys(tree(r=things), EACH + at("a"), ((2, "w"), (2, "x")))
        self.keys(tree(r=things), at("r") + (("where", "k", 1),) + at("a"), ((2, "w"), (2, "x")))
        self.keys(tree(r=things), at("r") + (("where", "k", True),) + at("a"), ())

    def test_what_is_no_plain_has_no_key(self):
        self.keys(tree(a=tree(b=1)), at("a"), ())
        self.keys(tree(a=row(1)), at("a"), ())
        self.keys(tree(r=row(tree(), 1, row(2), row())), EACH, ((1, 1),))

    def test_a_test(self):
        self.keys(tree(a=1, b=2), at("a"), ((1, 1),), ("there", at("b")))
        self.keys(tree(a=1), at("a"), (), ("there", at("b")))
        self.keys(tree(a=1), at("a"), ((1, 1),), ("and", ()))
        self.keys(tree(a=1), at("a"), (), ("or", ()))
        self.keys(tree(a=1), at("a"), (), ("like", at("a"), True))
        self.keys(tree(b=1), at("a"), (), ("and", ()))

    def test_many(self):
        source = random.Random(32)
        seen = 0
        for _ in range(2000):
            document, index = a_paper(source), an_index(source, "by")
            _, path, unique, _ = index
            self.told(tuple(plain_keys(document, path)), keys_of, document, ("x", path, unique, None))
            stands = ((("x", document, 0),), (index,), ())
            answer = tuple([key for key, _ in plain_rows(stands, "by")])
            self.told(answer, keys_of, document, index)
            seen += len(answer) > 0
        self.assertGreater(seen, 200)


class Rows(Checks):
    def test_rows(self):
        documents = (("a", tree(a=2), 0), ("b", tree(a="x"), 0), ("c", tree(b=1), 0), ("d", tree(a=row(1, True)), 0),
                     ("e", tree(a=1), 0), ("f", tree(a=2), 0))
        indexes = (("by", at("a"), False, None), ("n", at("a", "*"), True, None),
                   ("x", at("a"), False, ("above", at("a"), 1)))
        stands = (documents, indexes, ())
        self.told((((1, 1), "e"), ((1, 2), "a"), ((1, 2), "f"), ((2, "x"), "b")), rows_of, stands, "by")
        self.told((((0, True), "d"), ((1, 1), "d")), rows_of, stands, "n")
        self.told((((1, 2), "a"), ((1, 2), "f")), rows_of, stands, "x")

    def test_no_rows(self):
        self.told((), rows_of, ((), (("by", at("a"), False, None),), ()), "by")
        self.told((), rows_of, ((("x", tree(b=1), 0),), (("by", at("a"), True, None),), ()), "by")

    def test_no_name(self):
        self.refused("NoName", ("by",), rows_of, ((), (), ()), "by")
        stands = ((("a", tree(a=1), 0),), (("by", at("a"), True, None),), ())
        for name in ("a", "b", "bye", "zzzzzzzz"):
            self.refused("NoName", (name,), rows_of, stands, name)

    def test_elder_documents_are_led_first(self):
        shapes = ((("move", "a", "b"),), (("put", "b", 0),))
        documents = (("a", tree(a=1), 0), ("b", tree(a=1), 1), ("c", tree(a=1), 2), ("d", tree(b=True), 2))
        stands = (documents, (("by", at("b"), False, None), ("n", at("a"), False, ("like", at("b"), 0))), shapes)
        self.told((((0, True), "d"), ((1, 0), "b"), ((1, 1), "a")), rows_of, stands, "by")
        self.told((((1, 1), "b"),), rows_of, stands, "n")
        for name in ("by", "n"):
            self.told(rows_of(stands, name), rows_of, led_all(stands), name)

    def test_many(self):
        source = random.Random(33)
        seen = 0
        for _ in range(800):
            stands = some_stands(source)
            if refusal_of(led_all, stands) is not None:
                continue
            for name in [index[0] for index in stands[1]] + ["other"]:
                self.does(plain_rows, rows_of, stands, name)
                self.does(rows_of, rows_of, led_all(stands), name)
                seen += name != "other" and len(rows_of(stands, name)) > 0
            for name, path, unique, test in stands[1]:
                rows = rows_of(stands, name)
                turned = (stands[0], ((name, path, not unique, test),), stands[2])
                self.assertEqual(shape_of(rows_of(turned, name)), shape_of(rows))
        self.assertGreater(seen, 100)
