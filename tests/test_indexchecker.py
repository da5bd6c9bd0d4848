"""[35], [36]: any thing looked at as the ROWS of an INDEX."""

import random

from pathfolios.indexchecker import lets_rows
from pathfolios.keys import rows_of
from tests.checks import Checks, at, refusal_of, row, tree
from tests.makers import NO_NUMBERS, ODD_THINGS, shape_of
from tests.pasts import a_history
from tests.plainly import plain_stands, plain_view

DOCUMENTS = (("a", tree(a=row(1, True)), 0), ("b", tree(), 0), ("c", tree(a=row("1", 1, 5)), 0),
             ("d", tree(c=row(2)), 1))
STANDS = (DOCUMENTS, (("by", at("a", "*"), False, None), ("n", at("b"), True, None)), ((), (("move", "c", "a"),)))
ROWS = (((0, True), "a"), ((1, 1), "a"), ((1, 1), "c"), ((1, 2), "d"), ((1, 5), "c"), ((2, "1"), "c"))


class Rows(Checks):
    def no_paper(self, thing, word, number):
        for _ in range(2):
            self.refused("NoPaper", (word, number), lets_rows, STANDS, "by", thing)

    def test_the_rows(self):
        self.assertEqual(shape_of(rows_of(STANDS, "by")), shape_of(ROWS))
        for _ in range(2):
            self.told(6, lets_rows, STANDS, "by", ROWS)
            self.told(0, lets_rows, STANDS, "n", ())
        self.told(0, lets_rows, ((), STANDS[1], ()), "by", ())

    def test_no_name(self):
        for thing in ODD_THINGS + (ROWS, (), None):
            self.refused("NoName", ("x",), lets_rows, STANDS, "x", thing)
            self.refused("NoName", ("by",), lets_rows, (DOCUMENTS, (), STANDS[2]), "by", thing)

    def test_shape(self):
        for thing in ODD_THINGS + (list(ROWS), {}, None, "by", 6, True, ROWS[0], ROWS[0][0], STANDS, set()):
            self.no_paper(thing, "shape", -1)
        for part in ODD_THINGS + (["a", "a"], list(ROWS[0]), ROWS[0] + ("a",), ROWS[0][:1], (), ((1, 1), None),
                                  ((1, 1), 1), ((1, 1), ("a",)), ((1, 1), True), ("a", (1, 1)), ([1, 1], "a"), "ab",
                                  ((1,), "a"), ((1, 1, 1), "a"), ((), "a"), (1, "a"), (None, "a"), ("1", "a")):
            self.no_paper((part,), "shape", -1)
            self.no_paper(ROWS + (part,), "shape", -1)
            self.no_paper((part,) + ROWS, "shape", -1)

    def test_keys_by_kind(self):
        for key in ((1, True), (1, False), (0, 1), (0, 0), (True, 1), (False, True), (0, "a"), (1, "1"), (2, 1),
                    (2, True), (2, None), (1, None), (3, 1), (3, "a"), (-1, "a"), (-1, 1),
                    (None, 1), ("1", 1), (1, (1,)), (1, 1.0), (1.0, 1),
                    (2, ("a",)), (2, [])):
            self.no_paper(((key, "a"),), "shape", -1)
            self.no_paper(ROWS + ((key, "a"),), "shape", -1)
        for number in NO_NUMBERS:
            self.no_paper((((1, number), "a"),), "shape", -1)
        for text in ("A", "a b", "x" * 4000, "\"", "~", "a"):
            self.no_paper((((2, text), "a"),), "key", 0)
            self.no_paper((((2, text), text * 2),), "id", 0)

    def test_rise(self):
        for number in range(1, 6):
            self.no_paper(ROWS[:number] + ROWS[number - 1:], "rise", number)
            self.no_paper(ROWS[:number - 1] + (ROWS[number], ROWS[number - 1]) + ROWS[number + 1:], "rise", number)
        self.no_paper(ROWS[:1] + ROWS, "rise", 1)
        self.no_paper(ROWS + ROWS[:1], "rise", 6)
        self.no_paper(tuple(reversed(ROWS)), "rise", 1)
        self.no_paper((((1, 10), "c"), ((1, 9), "c")), "rise", 1)
        self.no_paper((((0, True), "a"), ((0, False), "a")), "rise", 1)
        self.no_paper((((2, ""), "a"), ((1, 10 ** 50), "a")), "rise", 1)

    def test_id(self):
        for text in ("e", "aa", "", "A", "x" * 4000, "by", "no id at all"):
            self.no_paper((((0, False), text),) + ROWS, "id", 0)
            self.no_paper(ROWS + (((2, "z"), text),), "id", 6)
            self.no_paper(ROWS[:3] + (((1, 1), "ca" + text),) + ROWS[3:], "id", 3)

    def test_key(self):
        self.no_paper((((0, False), "a"),) + ROWS, "key", 0)
        self.no_paper((((0, True), "a"), ((0, True), "c")) + ROWS[1:], "key", 1)
        self.no_paper(ROWS[:2] + (((1, 1), "b"),) + ROWS[2:], "key", 2)
        self.no_paper(ROWS + (((2, "1"), "d"),), "key", 6)
        self.no_paper(ROWS[:3] + (((1, 1), "d"),) + ROWS[3:], "key", 3)
        self.no_paper(ROWS[:4] + (((1, 3), "d"), ((1, 4), "d")) + ROWS[4:], "key", 4)

    def test_lacks(self):
        self.no_paper((), "lacks", 0)
        for number, lack in enumerate((0, 0, 2, 3, 2, 2)):
            self.no_paper(ROWS[:number] + ROWS[number + 1:], "lacks", lack)
        self.no_paper(ROWS[:3], "lacks", 2)
        self.no_paper(ROWS[3:], "lacks", 0)
        self.no_paper(ROWS[:3] + ROWS[4:5], "lacks", 2)

    def test_the_first_of_these(self):
        falls = ROWS[1:2] + ROWS[:1]
        self.no_paper((((1, True), "e"),) + falls, "shape", -1)
        self.no_paper(falls + ("x",), "shape", -1)
        # "rise" goes ahead of "id", wherever it is, this of "key", this of "lacks".
        self.no_paper((((0, False), "e"), ((0, False), "a")) + falls, "rise", 1)
        self.no_paper((((0, False), "a"), ((0, False), "e")) + ROWS[1:], "id", 1)
        self.no_paper((((0, False), "a"),) + ROWS[1:3], "key", 0)
        self.no_paper(ROWS[1:3] + (((1, 7), "b"),), "key", 2)
        self.no_paper(ROWS[:1] + (((1, 7), "b"), ((1, 8), "e")), "id", 2)

    def test_elder_rows_are_no_rows(self):
        self.refused("NoPaper", ("key", 0), lets_rows, ((("d", tree(c=row(2)), 1),), STANDS[1], ((), (("cut", "c"),))),
                     "by", (((1, 2), "d"),))

    def test_the_test_of_an_index(self):
        stands = (DOCUMENTS, (("by", at("a", "*"), False, ("like", at("a", 0), 1)),), STANDS[2])
        self.told(2, lets_rows, stands, "by", ROWS[:2])
        self.refused("NoPaper", ("key", 2), lets_rows, stands, "by", ROWS[:3])
        self.refused("NoPaper", ("lacks", 0), lets_rows, stands, "by", ROWS[:1])

    def test_many(self):
        source = random.Random(36)
        seen = {}
        for _ in range(150):
            history = a_history(source, source.randrange(3, 12))
            for stands in plain_stands(history).values():
                for name in [index[0] for index in stands[1]]:
                    rows = rows_of(stands, name)
                    self.told(len(rows), lets_rows, stands, name, rows)
                    thing = self.turned(source, rows, sorted(plain_view(stands)) + ["other"])
                    refusal = refusal_of(lets_rows, stands, name, thing)
                    self.assertEqual(refusal is None, shape_of(thing) == shape_of(rows))
                    seen[refusal and refusal[1][0]] = True
        self.assertEqual(set(seen), {None, "shape", "rise", "id", "key", "lacks"})

    def turned(self, source, rows, holders):
        """ROWS with a small thing turned in them."""
        rows = list(rows)
        place = source.randrange(len(rows) + 1)
        word = source.choice(("drop", "swap", "twice", "other", "kind", "none"))
        if word == "drop":
            del rows[place:place + 1]
        elif word == "swap":
            rows[place:place + 2] = reversed(rows[place:place + 2])
        elif word == "twice":
            rows[place:place] = rows[place:place + 1]
        elif word == "other":
            rows = sorted(rows + [((1, source.randrange(3)), source.choice(holders))])
        elif word == "kind":
            rows[place:place] = [((1, True), source.choice(holders))]
        return tuple(rows)
