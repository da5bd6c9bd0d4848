"""[7], [29], [30], [31]: RIGHT HISTORIES, what STANDS and the VIEW at MARKS, ENTRIES more, and FORGETTING."""

import random

from pathfolios.entries import is_history
from pathfolios.histories import forgotten, history_on, is_right, last_mark, stands_at, view_at
from pathfolios.standing import is_fit, let_in
from tests.checks import Checks, at, refusal_of, tree
from tests.makers import shape_of
from tests.pasts import NOTHING, a_history, an_entry, some_moves, some_stands
from tests.plainly import plain_let_in, plain_stands, plain_view

ENTRIES = (("put", "x", tree(a=1), 0), ("index", "by", at("a"), True, None), ("put", "b", tree(a=2), 0),
           ("shape", (("move", "a", "b"),)), ("put", "c", tree(a=2), 1), ("gone", "x"), ("bare", "by"))
HISTORY = (4, NOTHING, ENTRIES)
STOP = ("out", "a", "stop")


class Right(Checks):
    def right(self, history, so):
        self.told(so, is_right, history)

    def test_right(self):
        self.right((0, NOTHING, ()), True)
        self.right(HISTORY, True)
        self.right((0, ((("a", tree(a=1), 0),), (), ((STOP[:1] + ("b", "c"),),)), ENTRIES[:1]), True)

    def test_what_stands_at_the_first_mark_isnt_fit(self):
        for entries in ((), (("put", "x", tree(), 0),), (("gone", "a"),)):
            self.right((0, ((("a", tree(a=1), 0),), (), ((STOP,),)), entries), False)
        twice = (("a", tree(a=1), 0), ("b", tree(a=1), 0))
        for entries in ((), (("bare", "by"),), (("gone", "b"),)):
            self.right((7, (twice, (("by", at("a"), True, None),), ()), entries), False)
            self.right((7, (twice, (("by", at("a"), False, None),), ()), entries), True)

    def test_an_entry_isnt_let_in(self):
        for entry in (("put", "d", tree(), 2), ("gone", "x"), ("bare", "by"), ("bare", "x"), ("gone", "zz"),
                      ("shape", (("into", "b", "b"), ("move", "b", "c"), ("put", "b", 1), ("move", "c", "b")))):
            self.right((4, NOTHING, ENTRIES + (entry,)), False)
            self.right((4, NOTHING, ENTRIES + (entry, ("put", "d", tree(), 0))), False)
        self.right((0, NOTHING, ENTRIES[:2] + (("put", "y", tree(a=1), 0),)), False)
        self.right((0, NOTHING, ENTRIES[:4] + (("put", "y", tree(a=2), 1),) + ENTRIES[4:]), False)
        self.right((0, NOTHING, ENTRIES[:4] + (("put", "y", tree(a=3), 1),) + ENTRIES[4:]), True)
        self.right((0, NOTHING, (ENTRIES[0], ("shape", (STOP,)))), False)

    def test_each_entry_is_let_in_at_what_stands_ahead_of_it(self):
        self.right((0, NOTHING, (("put", "x", tree(), 1), ("shape", ()))), False)
        self.right((0, NOTHING, (("shape", ()), ("put", "x", tree(), 1))), True)
        self.right((0, NOTHING, (("put", "x", tree(), 0), ("gone", "x"), ("gone", "x"))), False)
        self.right((0, NOTHING, (("put", "x", tree(), 0), ("gone", "x"), ("put", "x", tree(), 0), ("gone", "x"))), True)

    def test_many(self):
        source = random.Random(290)
        seen = {True: 0, False: 0}
        for _ in range(400):
            history = a_history(source, source.randrange(8))
            self.right(history, True)
            first, stands, entries = history
            stands_last = plain_stands(history)[first + len(entries)]
            entry = an_entry(source, stands_last)
            so = refusal_of(plain_let_in, stands_last, entry) is None
            self.right((first, stands, entries + (entry,)), so)
            seen[so] += 1
            begin = some_stands(source)
            self.right((first, begin, ()), is_fit(begin))
        self.assertGreater(min(seen.values()), 50)


class Marks(Checks):
    def test_last(self):
        self.told(11, last_mark, HISTORY)
        self.told(0, last_mark, (0, NOTHING, ()))
        self.told(10 ** 59 + 1, last_mark, (10 ** 59, NOTHING, ENTRIES[:1]))

    def test_what_stands_at_each_mark(self):
        index = ("by", at("a"), True, None)
        moves = (("move", "a", "b"),)
        put_x, put_b, put_c = ("x", tree(a=1), 0), ("b", tree(a=2), 0), ("c", tree(a=2), 1)
        told = (NOTHING, ((put_x,), (), ()), ((put_x,), (index,), ()), ((put_b, put_x), (index,), ()),
                ((put_b, put_x), (index,), (moves,)), ((put_b, put_c, put_x), (index,), (moves,)),
                ((put_b, put_c), (index,), (moves,)), ((put_b, put_c), (), (moves,)))
        for number, stands in enumerate(told):
            self.told(stands, stands_at, HISTORY, mark=4 + number)
        self.told(told[-1], stands_at, HISTORY)
        self.told(told[-1], stands_at, HISTORY, mark=None)

    def test_the_view_at_each_mark(self):
        x, b, c = ("x", tree(a=1)), ("b", tree(a=2)), ("c", tree(a=2))
        led = (("b", tree(b=2)), ("x", tree(b=1)))
        told = ((), (x,), (x,), (b, x), led, (led[0], c, led[1]), (led[0], c), (led[0], c))
        for number, view in enumerate(told):
            self.told(view, view_at, HISTORY, mark=4 + number)
        self.told(told[-1], view_at, HISTORY)
        self.told(told[-1], view_at, HISTORY, mark=None)

    def test_no_marks(self):
        for mark in (3, 12, 0, -1, -4, 10 ** 59, -10 ** 59):
            for call in (stands_at, view_at):
                self.refused("NoMark", (mark,), call, HISTORY, mark=mark)
            self.refused("NoMark", (mark,), forgotten, HISTORY, mark)
        for mark in (-1, 1):
            self.refused("NoMark", (mark,), stands_at, (0, NOTHING, ()), mark=mark)

    def test_many(self):
        source = random.Random(291)
        for _ in range(120):
            history = a_history(source, source.randrange(14))
            marks = plain_stands(history)
            for mark, stands in marks.items():
                self.told(stands, stands_at, history, mark=mark)
                self.told(tuple(plain_view(stands).items()), view_at, history, mark=mark)
                self.assertTrue(is_fit(stands))
            for mark in (min(marks) - 1, max(marks) + 1):
                self.refused("NoMark", (mark,), stands_at, history, mark=mark)
                self.refused("NoMark", (mark,), view_at, history, mark=mark)
            self.told(max(marks), last_mark, history)


class On(Checks):
    def test_each_entry_is_put_behind(self):
        history = (4, NOTHING, ())
        for number, entry in enumerate(ENTRIES):
            self.told((4, NOTHING, ENTRIES[:number + 1]), history_on, history, entry)
            history = history_on(history, entry)
        self.told(True, is_right, history)

    def test_refused_as_at_the_last(self):
        self.refused("NoMark", (2,), history_on, HISTORY, ("put", "x", tree(), 2))
        self.refused("NoId", ("x",), history_on, HISTORY, ("gone", "x"))
        self.refused("NoName", ("by",), history_on, HISTORY, ("bare", "by"))
        self.refused("NoLead", ("b", 0), history_on, HISTORY, ("shape", (("out", "b", "a"),)))
        self.refused("NoKey", ("n", "d"), history_on, history_on(HISTORY, ("put", "d", tree(b=2), 1)),
                     ("index", "n", at("b"), True, None))

    def test_what_an_elder_history_told_stays(self):
        source = random.Random(31)
        for _ in range(120):
            history = a_history(source, source.randrange(8))
            ahead = shape_of(history)
            marks = plain_stands(history)
            entry = an_entry(source, marks[max(marks)])
            self.does(lambda history, entry: self.on(history, entry, marks), history_on, history, entry)
            self.assertEqual(shape_of(history), ahead)
            if refusal_of(history_on, history, entry) is not None:
                continue
            longer = history_on(history, entry)
            for mark, stands in marks.items():
                self.told(stands, stands_at, longer, mark=mark)
                self.told(view_at(history, mark=mark), view_at, longer, mark=mark)
            self.told(let_in(marks[max(marks)], entry), stands_at, longer)

    def on(self, history, entry, marks):
        plain_let_in(marks[max(marks)], entry)
        return history[:2] + (history[2] + (entry,),)


class Forgotten(Checks):
    def test_up_to_the_first(self):
        self.told(HISTORY, forgotten, HISTORY, 4)
        self.told((0, NOTHING, ()), forgotten, (0, NOTHING, ()), 0)

    def test_up_to_a_middle_one(self):
        for mark in range(5, 11):
            self.told((mark, stands_at(HISTORY, mark=mark), ENTRIES[mark - 4:]), forgotten, HISTORY, mark)

    def test_up_to_the_last(self):
        self.told((11, stands_at(HISTORY), ()), forgotten, HISTORY, 11)

    def test_elder_documents_keep_their_editions(self):
        self.told((8, ((("b", tree(a=2), 0), ("x", tree(a=1), 0)), (("by", at("a"), True, None),),
                       ((("move", "a", "b"),),)), ENTRIES[4:]), forgotten, HISTORY, 8)

    def test_marks_that_are_kept_are_told_as_ahead(self):
        source = random.Random(30)
        for _ in range(80):
            history = a_history(source, source.randrange(10))
            marks = plain_stands(history)
            for floor in marks:
                less = forgotten(history, floor)
                self.assertTrue(is_history(less))
                self.told(True, is_right, less)
                self.told(max(marks), last_mark, less)
                for mark in marks:
                    if mark < floor:
                        self.refused("NoMark", (mark,), stands_at, less, mark=mark)
                        self.refused("NoMark", (mark,), view_at, less, mark=mark)
                        self.refused("NoMark", (mark,), forgotten, less, mark)
                    else:
                        self.told(marks[mark], stands_at, less, mark=mark)
                        self.told(view_at(history, mark=mark), view_at, less, mark=mark)
                        self.told(forgotten(history, mark), forgotten, less, mark)

    def test_entries_go_on_behind_forgetting(self):
        source = random.Random(301)
        for _ in range(100):
            history = a_history(source, 6)
            floor = source.randrange(history[0], history[0] + 7)
            entry = ("shape", some_moves(source))
            refusal = refusal_of(history_on, history, entry)
            if refusal is None:
                self.told(forgotten(history_on(history, entry), floor), history_on, forgotten(history, floor), entry)
            else:
                self.refused(*refusal, history_on, forgotten(history, floor), entry)
