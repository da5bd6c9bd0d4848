"""[7], [27]: INDEXES, ENTRIES, what STANDS, HISTORIES by kind."""

import random

from pathfolios.entries import is_entry, is_history, is_index, is_stands
from tests.checks import Checks, at, row, tree
from tests.makers import NO_NUMBERS, NO_PATHS, NO_WORDS, ODD_THINGS
from tests.pasts import NOTHING, a_history, some_stands

A = at("a")
TEST = ("there", A)
NO_TESTS = (True, False, 0, "", (), ("there",), ["there", A], ("there", ()), ("and", []), ("set", A, 1), (None,))
NO_TRUTHS = (None, 0, 1, "", "yes", (), (True,), [])
NO_DOCUMENTS = (None, 1, True, "a", (), row(), ("tree",), ("tree", []), ["tree", ()], tree(a=None), (("a", 1),),
                ("tree", (("b", 1), ("a", 1))), ("tree", (("a", 1), ("a", 1))), {})
NO_MOVES = (None, (None,), [], [("cut", "a")], ("cut", "a"), (("cut",),), (("cut", "a"), ["cut", "a"]), ((),), "", 0)

INDEXES = (("by", A, True, None), ("n", (("each",),), False, TEST), ("zzzzzzzz", A * 9, True, ("and", ())))
ENTRIES = (("put", "x", tree(), 0), ("put", "x", tree(a=1), 10 ** 59), ("gone", "x"), ("bare", "x"), ("shape", ()),
           ("shape", (("cut", "a"), ("cut", "a")))) + tuple([("index",) + index for index in INDEXES])
NO_ENTRIES = ((), None, "gone", ["gone", "x"], ("gone",), ("gone", "x", "x"), ("Gone", "x"), ("", "x"), (None, "x"),
              ([], "x"), (("gone",), "x"), (("gone", "x"),), ("put",), ("put", "x"), ("put", "x", tree()),
              ("put", "x", 0, tree()), ("put", "x", tree(), 0, 0), ["put", "x", tree(), 0], ("x", tree(), 0),
              ("index",), ("index", INDEXES[0]), ("index",) + INDEXES[0][:3], ("index",) + INDEXES[0] + (None,),
              ["index", *INDEXES[0]], ("bare",), ("bare", "x", "x"), ["bare", "x"], ("shape",),
              ("shape", (), ()), ["shape", ()], ("shape", ("cut", "a")), ("cut", "a"), ("store", 3), ("move", "a", "b"))

STANDS = (NOTHING, ((), (), ((),)), ((("x", tree(), 0),), (), ()), ((("x", tree(), 1),), INDEXES, ((),)),
          ((("a", tree(), 0), ("b", tree(), 2), ("bb", tree(), 1)), INDEXES[:1], ((("cut", "a"),), ())))


class Indexes(Checks):
    def test_indexes(self):
        for index in INDEXES:
            self.told(True, is_index, index)
            for thing in (list(index), index[:3], index + (None,), (index,), ("index",) + index, index[1:] + index[:1]):
                self.told(False, is_index, thing)

    def test_no_indexes(self):
        for thing in ODD_THINGS + ENTRIES + NO_ENTRIES + STANDS:
            self.told(False, is_index, thing)

    def test_wrong_parts(self):
        for word in NO_WORDS:
            self.wrong(word, A, True, None)
        for path in NO_PATHS:
            self.wrong("by", path, True, None)
        for unique in NO_TRUTHS:
            self.wrong("by", A, unique, None)
        for test in NO_TESTS:
            self.wrong("by", A, True, test)

    def wrong(self, *parts):
        self.told(False, is_index, parts)
        self.told(False, is_entry, ("index",) + parts)
        self.told(False, is_stands, ((), (parts,), ()))


class Entries(Checks):
    def test_entries(self):
        for entry in ENTRIES:
            self.told(True, is_entry, entry)
            for thing in (list(entry), entry[:-1], entry + (None,), (entry,), entry[1:]):
                self.told(False, is_entry, thing)

    def test_no_entries(self):
        for thing in ODD_THINGS + NO_ENTRIES + STANDS:
            self.told(False, is_entry, thing)

    def test_wrong_parts(self):
        for word in NO_WORDS:
            for entry in (("put", word, tree(), 0), ("gone", word), ("bare", word), ("shape", (("cut", word),))):
                self.told(False, is_entry, entry)
        for document in NO_DOCUMENTS:
            self.told(False, is_entry, ("put", "x", document, 0))
        for edition in NO_NUMBERS + (-1, -10 ** 59):
            self.told(False, is_entry, ("put", "x", tree(), edition))
        for moves in NO_MOVES:
            self.told(False, is_entry, ("shape", moves))


class Stands(Checks):
    def test_what_stands(self):
        for stands in STANDS:
            self.told(True, is_stands, stands)
            for thing in (list(stands), stands[:2], stands + ((),), (stands,), ([],) + stands[1:],
                          stands[:1] + ([],) + stands[2:], stands[:2] + ([],), stands[:2] + (None,), stands[:2] + (0,),
                          (None,) + stands[1:], stands[:1] + (None,) + stands[2:]):
                self.told(False, is_stands, thing)

    def test_nothing_that_stands(self):
        for thing in ODD_THINGS + ENTRIES + NO_ENTRIES + INDEXES:
            self.told(False, is_stands, thing)

    def test_documents(self):
        for part in (("x", tree()), ("x", tree(), 0, 0), ["x", tree(), 0], "x", None, (), ("x", 0, tree()),
                     ("x", tree(), 1), ("x", tree(), -1), ("x", tree(), True), ("x", tree(), None), ("X", tree(), 0),
                     ("put", "x", tree(), 0)):
            self.told(False, is_stands, ((part,), (), ()))
            self.told(False, is_stands, ((("a", tree(), 0), part), (), ()))
        for word in NO_WORDS:
            self.told(False, is_stands, (((word, tree(), 0),), (), ()))
        for document in NO_DOCUMENTS:
            self.told(False, is_stands, ((("x", document, 0),), (), ()))
        for edition in NO_NUMBERS + (-1, 3, 10 ** 59):
            self.told(False, is_stands, ((("x", tree(), edition),), (), ((), ())))
        for edition in (0, 1, 2):
            self.told(True, is_stands, ((("x", tree(), edition),), (), ((), ())))

    def test_no_edition_above_the_newest(self):
        documents = (("a", tree(), 0), ("b", tree(), 2), ("c", tree(), 1))
        for many in range(4):
            self.told(many >= 2, is_stands, (documents, (), ((),) * many))

    def test_ids_rise(self):
        for holders, so in ((("a", "b", "c"), True), (("a", "ab", "b"), True), (("b", "a"), False),
                            (("a", "a"), False), (("a", "c", "b"), False), (("ab", "a"), False)):
            documents = tuple([(holder, tree(a=number), 0) for number, holder in enumerate(holders)])
            self.told(so, is_stands, (documents, (), ()))
            indexes = tuple([(holder, A, False, None) for holder in holders])
            self.told(so, is_stands, ((), indexes, ()))

    def test_like_ids_of_unlike_editions(self):
        self.told(False, is_stands, ((("a", tree(), 0), ("a", tree(), 1)), (), ((),)))
        self.told(False, is_stands, ((), (("a", A, False, None), ("a", A, True, None)), ()))

    def test_indexes_and_shapes(self):
        for index in (INDEXES[0][:3], list(INDEXES[0]), None, ("index",) + INDEXES[0]):
            self.told(False, is_stands, ((), (INDEXES[0], index), ()))
        for moves in NO_MOVES:
            self.told(False, is_stands, ((), (), (moves,)))
            self.told(False, is_stands, ((), (), ((), moves)))

    def test_what_cant_be_led_or_isnt_sound_stands_by_kind(self):
        self.told(True, is_stands, ((("a", tree(a=1), 0),), (), ((("move", "a", "a"),),)))
        self.told(True, is_stands, ((("a", tree(a=1), 0), ("b", tree(a=1), 0)), (("by", A, True, None),), ()))

    def test_many(self):
        source = random.Random(27)
        for _ in range(300):
            self.told(True, is_stands, some_stands(source))


class Histories(Checks):
    def test_histories(self):
        for stands in STANDS:
            for first in (0, 7, 10 ** 59):
                self.told(True, is_history, (first, stands, ()))
                self.told(True, is_history, (first, stands, ENTRIES))
                self.told(False, is_history, [first, stands, ()])
                self.told(False, is_history, (first, stands))
                self.told(False, is_history, (first, stands, (), ()))
                self.told(False, is_history, (stands, first, ()))

    def test_no_histories(self):
        for thing in ODD_THINGS + ENTRIES + NO_ENTRIES + STANDS + INDEXES:
            self.told(False, is_history, thing)

    def test_wrong_parts(self):
        for first in NO_NUMBERS + (-1, -10 ** 59):
            self.told(False, is_history, (first, NOTHING, ()))
        for stands in ODD_THINGS + (None, (), [(), (), ()], ((), ()), ((("a", tree(), 1),), (), ())):
            self.told(False, is_history, (0, stands, ()))
        for entry in ODD_THINGS + NO_ENTRIES:
            self.told(False, is_history, (0, NOTHING, (entry,)))
            self.told(False, is_history, (0, NOTHING, ENTRIES + (entry,)))
        for entries in (None, [], list(ENTRIES), ENTRIES[2], "", 0, {}):
            self.told(False, is_history, (0, NOTHING, entries))

    def test_entries_that_arent_let_in_are_entries_by_kind(self):
        self.told(True, is_history, (0, NOTHING, (("gone", "x"), ("bare", "x"), ("put", "x", tree(), 9))))

    def test_many(self):
        source = random.Random(28)
        for many in range(30):
            self.told(True, is_history, a_history(source, many))
