"""[72], [73], [74]: ASKER'S ROWS by kind, and JUDGED by a HISTORY."""

import random

from pathfolios.askers import are_asker_rows, judged
from pathfolios.histories import forgotten, last_mark
from tests.checks import Checks, row, tree
from tests.makers import NO_WORDS, ODD_THINGS
from tests.pasts import NOTHING, a_history
from tests.plainasking import plain_judged, some_rows

ONE, TWO, OTHER = tree(a=1), tree(a=2), tree(a=True)
ENTRIES = (("put", "x", ONE, 0), ("put", "y", TWO, 0), ("shape", (("move", "a", "b"),)), ("put", "x", tree(b=3), 1),
           ("gone", "y"), ("put", "x", ONE, 0))
HISTORY = (0, NOTHING, ENTRIES)


def read(holder, document):
    return ("read", holder, document)


def write(entry):
    return ("write", entry)


class AreAskerRows(Checks):
    def rows(self, thing, so):
        self.told(so, are_asker_rows, thing)

    def test_each_kind(self):
        self.rows((), True)
        for part in (read("x", None), read("zzzzzzzz", tree()), read("x", tree(a=row(True)))) + tuple(
                [write(entry) for entry in ENTRIES]) + (write(("index", "by", (("each",),), True, None)),
                                                        write(("bare", "by"))):
            self.rows((part,), True)
            self.rows((part, part, read("a", None)), True)

    def test_rows_of_no_kind(self):
        for part in ODD_THINGS + ((), ("read",), ("read", "x"), ("write",), ("Read", "x", None), ("reads", "x", None),
                                  ["read", "x", None], ["write", ENTRIES[0]], ("write", ENTRIES[0], ENTRIES[0]),
                                  ("read", "x", None, None), ("write", "x", None), ("read", ENTRIES[0]), "read", None,
                                  (["read"], "x", None), ((), "x", None)):
            self.rows((part,), False)
            self.rows((read("x", None), part), False)
            self.rows((part, write(ENTRIES[0])), False)

    def test_each_part(self):
        for word in NO_WORDS:
            self.rows((read(word, None),), False)
            self.rows((write(("gone", word)),), False)
        for document in (1, "a", True, (), row(), ("tree", []), ["tree", ()], ("tree", (("a", None),))):
            self.rows((read("x", document),), False)
        for entry in ODD_THINGS + (("put", "x", ONE), ("put", "x", None, 0), ("put", "x", ONE, -1), list(ENTRIES[0]),
                                   ("put", "x", ONE, True), ("shape", None), ("read", "x", None)):
            self.rows((write(entry),), False)

    def test_no_tuples(self):
        for thing in ODD_THINGS + ([], [read("x", None)], {}, read("x", None), "read", 0, None, True):
            self.rows(thing, False)


class Judged(Checks):
    def fits(self, rows, *marks, history=HISTORY):
        self.told(("fits", marks), judged, history, rows)

    def bars(self, number, rows, *marks, history=HISTORY):
        self.told(("bar", number, marks), judged, history, rows)

    def test_no_rows(self):
        self.fits(())
        self.fits((), history=(9, NOTHING, ()))

    def test_reads(self):
        self.fits((read("x", None),), 0)
        self.fits((read("x", ONE),), 1)
        self.fits((read("y", TWO),), 2)
        self.fits((read("y", TWO), read("x", ONE), read("y", TWO)), 2, 2, 2)
        self.fits((read("x", tree(b=3)), read("y", None), read("x", ONE)), 4, 5, 6)
        self.fits((read("zz", None),) * 3, 0, 0, 0)

    def test_reads_of_none(self):
        self.fits((read("y", None), read("y", TWO), read("y", None)), 0, 2, 5)
        self.bars(1, (read("y", TWO), read("x", None)), 2)

    def test_a_document_of_an_elder_edition_stands_as_it_is(self):
        self.fits((write(ENTRIES[2]), read("x", ONE), read("y", TWO)), 3, 3, 3)
        self.bars(1, (write(ENTRIES[2]), read("x", tree(b=1))), 3)

    def test_writes(self):
        self.fits((write(ENTRIES[0]),), 1)
        self.fits((write(ENTRIES[0]), write(ENTRIES[0])), 1, 6)
        self.bars(2, (write(ENTRIES[0]),) * 3, 1, 6)
        self.fits(tuple([write(entry) for entry in ENTRIES]), 1, 2, 3, 4, 5, 6)
        self.bars(1, (write(ENTRIES[1]), write(ENTRIES[1])), 2)
        self.bars(1, (write(ENTRIES[4]), write(ENTRIES[3])), 5)
        self.bars(0, (write(("gone", "x")),))

    def test_a_write_needs_a_later_mark_a_read_doesnt(self):
        self.fits((read("x", ONE), write(ENTRIES[0])), 1, 6)
        self.fits((write(ENTRIES[0]), read("x", ONE)), 1, 1)
        self.fits((read("x", None), write(ENTRIES[0]), read("y", None)), 0, 1, 1)
        self.bars(1, (read("y", TWO), write(ENTRIES[1])), 2)

    def test_barred_at_the_first_in_the_middle(self):
        self.bars(0, (read("x", TWO),))
        self.bars(0, (read("x", TWO), read("x", ONE)))
        self.bars(1, (read("x", tree(b=3)), read("y", tree()), read("x", ONE)), 4)
        self.bars(2, (read("y", TWO), read("y", None), read("y", TWO)), 2, 5)

    def test_a_truth_beside_a_number(self):
        self.bars(0, (read("x", OTHER),))
        self.bars(0, (write(("put", "x", OTHER, 0)),))
        self.bars(0, (write(("put", "x", ONE, 1)),))
        history = (0, NOTHING, (("put", "x", ONE, 0), ("put", "x", OTHER, 0)))
        self.fits((read("x", OTHER),), 2, history=history)
        self.fits((write(("put", "x", OTHER, 0)),), 2, history=history)

    def test_a_first_above_0(self):
        kept = forgotten(HISTORY, 2)
        self.fits((read("x", ONE), write(ENTRIES[2])), 2, 3, history=kept)
        # What led to the first MARK isn't kept.
        self.bars(0, (write(ENTRIES[1]),), history=kept)
        self.bars(0, (read("x", None),), history=kept)
        self.fits((write(ENTRIES[0]),), 6, history=kept)
        alone = (7, ((("x", ONE, 0),), (), ()), ())
        self.fits((read("x", ONE), read("y", None)), 7, 7, history=alone)
        self.bars(0, (write(ENTRIES[0]),), history=alone)

    def test_many(self):
        source = random.Random(73)
        seen = {}
        for _ in range(500):
            history = a_history(source, source.randrange(8))
            rows = some_rows(source, history)
            told = plain_judged(history, rows)
            self.told(told, judged, history, rows)
            self.told(True, are_asker_rows, rows)
            seen[told[0]] = seen.get(told[0], 0) + (len(rows) > 1)
        self.assertGreater(min(seen.values()), 60, seen)

    def test_with_entries_more_behind(self):
        source = random.Random(74)
        for _ in range(200):
            first, stands, entries = history = a_history(source, 8)
            upto = source.randrange(9)
            rows = some_rows(source, (first, stands, entries[:upto]))
            told = judged((first, stands, entries[:upto]), rows)
            if told[0] == "fits":
                self.told(told, judged, history, rows)
                self.assertTrue(all([first <= mark <= last_mark(history) for mark in told[1]]))
