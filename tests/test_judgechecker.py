"""[73], [74]: any thing looked at as what is JUDGED."""

import random

from pathfolios.askers import judged
from pathfolios.histories import forgotten
from pathfolios.judgechecker import lets_judged
from tests.checks import Checks, tree
from tests.makers import NO_NUMBERS, ODD_THINGS
from tests.pasts import NOTHING, a_history
from tests.plainasking import plain_fits, plain_judged, some_rows
from tests.test_askers import ENTRIES, HISTORY, ONE, OTHER, TWO, read, write

ROWS = (read("x", ONE), write(ENTRIES[1]), read("y", TWO), write(ENTRIES[3]))
MARKS = (1, 2, 2, 4)
BARRED = ROWS[:3] + (read("x", OTHER), read("x", ONE))


def plain_verdict(history, rows, thing):
    """[73] of a thing by kind: True, False, or a pair (word, at)."""
    word, marks = thing[0], thing[-1]
    many = len(rows) if word == "fits" else thing[1]
    if len(marks) != many or (word == "bar" and many not in range(len(rows))):
        return ("many", -1)
    first, _, entries = history
    every = range(first, first + len(entries) + 1)

    def can_be(j):
        least = first if j == 0 else marks[j - 1] + (rows[j][0] == "write")
        return [mark for mark in every if mark >= least and plain_fits(history, rows[j], mark)]

    for j, mark in enumerate(marks):
        if mark not in can_be(j) or (word == "bar" and mark != can_be(j)[0]):
            return ("mark", j)
    if word == "bar" and can_be(many):
        return ("bar", many)
    return word == "fits"


class LetsJudged(Checks):
    def lets(self, so, rows, thing, history=HISTORY):
        for _ in range(2):
            self.told(so, lets_judged, history, rows, thing)

    def no_paper(self, word, at, rows, thing, history=HISTORY):
        for _ in range(2):
            self.refused("NoPaper", (word, at), lets_judged, history, rows, thing)

    def test_what_is_judged(self):
        self.told(("fits", MARKS), judged, HISTORY, ROWS)
        self.lets(True, ROWS, ("fits", MARKS))
        self.told(("bar", 3, MARKS[:3]), judged, HISTORY, BARRED)
        self.lets(False, BARRED, ("bar", 3, MARKS[:3]))
        self.lets(True, (), ("fits", ()))
        self.lets(False, (read("x", TWO),), ("bar", 0, ()))

    def test_fits_by_greater_marks(self):
        for marks in ((1, 2, 3, 4), (1, 2, 4, 4)):
            self.lets(True, ROWS[:3] + (read("y", TWO),), ("fits", marks))
        self.lets(True, (read("x", ONE),), ("fits", (6,)))
        self.lets(True, (write(ENTRIES[0]),), ("fits", (6,)))
        self.lets(True, (read("y", None), read("y", None)), ("fits", (0, 6)))

    def test_shape(self):
        for thing in ODD_THINGS + (["fits", MARKS], ("fits",), ("fits", MARKS, ()), ("fits", list(MARKS)), "fits", {},
                                   ("Fits", MARKS), ("bar", MARKS), ("bar", 3), ("bar",), ["bar", 3, ()], True, None,
                                   ("bar", 3, list(MARKS[:3])), ("bar", MARKS[:3], 3), ("bar", 3, MARKS[:3], ()), (),
                                   ("fits", 4, MARKS), ("bar", "3", ()), (MARKS,), MARKS, ("fits", None), (True, MARKS),
                                   ("fits", 3), ("bar", 3, 3), (1, MARKS)):
            for rows in (ROWS, BARRED, ()):
                self.no_paper("shape", -1, rows, thing)
        for number in NO_NUMBERS:
            self.no_paper("shape", -1, ROWS, ("fits", MARKS[:3] + (number,)))
            self.no_paper("shape", -1, BARRED, ("bar", 3, MARKS[:2] + (number,)))
            self.no_paper("shape", -1, BARRED, ("bar", number, MARKS[:3]))
        self.no_paper("shape", -1, ROWS, ("fits", (True, 2, 2, 4)))
        self.no_paper("shape", -1, BARRED, ("bar", True, (1,)))

    def test_many_of_fits(self):
        for marks in (MARKS[:3], MARKS + (4,), (), (9, 9)):
            self.no_paper("many", -1, ROWS, ("fits", marks))
        self.no_paper("many", -1, (), ("fits", (0,)))

    def test_many_of_bar(self):
        for number, marks in ((3, MARKS[:2]), (3, MARKS), (2, MARKS[:3]), (5, MARKS + (4,)), (-1, ()), (4, MARKS[:3]),
                              (10 ** 59, ()), (-10 ** 59, ()), (5, MARKS[:3]), (6, ()), (-3, MARKS[:3])):
            self.no_paper("many", -1, BARRED, ("bar", number, marks))
        self.no_paper("many", -1, ROWS, ("bar", 4, MARKS))
        self.no_paper("many", -1, (), ("bar", 0, ()))

    def test_a_mark_that_is_none_of_the_history(self):
        for mark in (-1, 7, 10 ** 59, -10 ** 59):
            for number in range(4):
                self.no_paper("mark", number, ROWS, ("fits", MARKS[:number] + (mark,) + MARKS[number + 1:]))
            self.no_paper("mark", 2, BARRED, ("bar", 3, MARKS[:2] + (mark,)))
        kept = forgotten(HISTORY, 2)
        self.no_paper("mark", 0, (read("x", ONE),), ("fits", (1,)), kept)
        self.no_paper("mark", 0, (write(ENTRIES[1]),), ("fits", (2,)), kept)
        self.lets(True, (read("x", ONE),), ("fits", (2,)), kept)

    def test_a_mark_below_that_of_the_row_ahead(self):
        self.no_paper("mark", 1, (read("x", ONE), read("x", ONE)), ("fits", (2, 1)))
        self.lets(True, (read("x", ONE), read("x", ONE)), ("fits", (2, 2)))
        self.no_paper("mark", 1, (read("y", None), read("x", None)), ("fits", (1, 0)))

    def test_a_write_at_the_mark_of_the_row_ahead(self):
        self.no_paper("mark", 1, (read("x", ONE), write(ENTRIES[0])), ("fits", (1, 1)))
        self.lets(True, (read("x", ONE), write(ENTRIES[0])), ("fits", (1, 6)))
        self.no_paper("mark", 1, (write(ENTRIES[0]), write(ENTRIES[0])), ("fits", (1, 1)))
        self.no_paper("mark", 1, (write(ENTRIES[0]), write(ENTRIES[0])), ("fits", (6, 6)))

    def test_a_row_that_doesnt_fit_it(self):
        for mark in (0, 3, 4, 5):
            self.no_paper("mark", 0, (write(ENTRIES[1]),), ("fits", (mark,)))
        for mark in (0, 4, 5):
            self.no_paper("mark", 0, (read("x", ONE),), ("fits", (mark,)))
        self.no_paper("mark", 0, (read("x", OTHER),), ("fits", (1,)))
        self.no_paper("mark", 0, (write(("put", "x", OTHER, 0)),), ("fits", (1,)))
        self.no_paper("mark", 0, (read("x", None),), ("fits", (1,)))

    def test_a_lesser_one_would_do(self):
        rows = (read("x", ONE), read("y", TWO), read("x", TWO))
        self.lets(False, rows, ("bar", 2, (1, 2)))
        self.no_paper("mark", 0, rows, ("bar", 2, (2, 2)))
        self.no_paper("mark", 1, rows, ("bar", 2, (1, 3)))
        self.no_paper("mark", 0, rows, ("bar", 2, (3, 3)))
        self.no_paper("mark", 0, (write(ENTRIES[0]), read("x", TWO)), ("bar", 1, (6,)))

    def test_bar_of_a_row_that_fits(self):
        self.no_paper("bar", 3, ROWS, ("bar", 3, MARKS[:3]))
        self.no_paper("bar", 0, ROWS, ("bar", 0, ()))
        self.no_paper("bar", 2, BARRED, ("bar", 2, MARKS[:2]))
        self.no_paper("bar", 0, (read("x", None),), ("bar", 0, ()))
        self.no_paper("bar", 0, (write(ENTRIES[5]),), ("bar", 0, ()))
        # A later row that is barred is none of those ahead of it.
        self.no_paper("bar", 1, BARRED, ("bar", 1, MARKS[:1]))
        self.no_paper("mark", 3, BARRED, ("bar", 4, MARKS[:3] + (4,)))

    def test_the_first_of_these(self):
        self.no_paper("shape", -1, ROWS, ("fits", (9, None)))
        self.no_paper("many", -1, ROWS, ("fits", (9,)))
        self.no_paper("many", -1, ROWS, ("bar", 4, (9,)))
        self.no_paper("mark", 0, ROWS, ("bar", 1, (9,)))
        self.no_paper("mark", 1, ROWS, ("fits", (1, 0, 9, 9)))

    def test_many(self):
        source = random.Random(73)
        seen = {}
        for _ in range(700):
            history = a_history(source, source.randrange(7))
            rows = some_rows(source, history, 4)
            told = plain_judged(history, rows)
            self.lets(told[0] == "fits", rows, told, history)
            for _ in range(3):
                marks = list(told[-1])
                for _ in range(source.randrange(2)):
                    if marks:
                        marks[source.randrange(len(marks))] += source.choice((-1, 1, 1, 2))
                if source.randrange(8) == 0:
                    marks = marks[:-1] or [0]
                number = source.choice((len(marks), len(marks), len(marks) - 1))
                word = source.choice((told[0], told[0], "fits", "bar"))
                if word == "bar" and source.randrange(2):
                    marks, number = marks[:-1], len(marks[:-1])
                thing = ("fits", tuple(marks)) if word == "fits" else ("bar", number, tuple(marks))
                verdict = plain_verdict(history, rows, thing)
                key = verdict if isinstance(verdict, bool) else verdict[0]
                seen[key] = seen.get(key, 0) + 1
                if isinstance(verdict, bool):
                    self.lets(verdict, rows, thing, history)
                else:
                    self.no_paper(*verdict, rows, thing, history)
        self.assertEqual(set(seen), {True, False, "many", "mark", "bar"})
        self.assertGreater(min(seen.values()), 50, seen)

    def test_a_tree_is_no_verdict(self):
        self.no_paper("shape", -1, ROWS, tree())
