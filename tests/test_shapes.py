"""[7], [50]: MOVES, tuples of MOVES and SHAPES by kind; what comes of a DOCUMENT by a MOVE."""

import random

from pathfolios.shapes import is_move, is_moves, is_shapes, moved
from pathfolios.values import is_document
from tests.checks import Checks, row, tree
from tests.makers import NO_VALUES, NO_WORDS, ODD_THINGS, a_value, shape_of
from tests.pasts import a_move, a_paper
from tests.plainly import plain_moved_or_none

MOVES = (("put", "a", 1), ("put", "abcdefgh", tree(a=row())), ("put", "a", True), ("put", "a", "cut"),
         ("move", "a", "b"), ("move", "a", "a"), ("cut", "a"), ("into", "a", "b"), ("into", "a", "a"),
         ("out", "a", "b"), ("out", "a", "a"))
NO_MOVES = ((), "cut", ["cut", "a"], ("cut",), ("cut", "a", "b"), ("cut", ("a",)), ("Cut", "a"), ("", "a"), (None, "a"),
            (True, "a"), (["cut"], "a"), (("cut",), "a"), ("cut", ["a"]), (("cut", "a"),), [("cut", "a")],
            ("put",), ("put", "a"), ("put", "a", 1, 1), ["put", "a", 1], ("put", 1, "a"),
            ("move",), ("move", "a"), ("move", "a", "b", "c"), ("move", ("a", "b")), ["move", "a", "b"],
            ("into",), ("into", "a"), ("into", "a", "b", "c"), ["into", "a", "b"],
            ("out",), ("out", "a"), ("out", "a", "b", "c"), ["out", "a", "b"], ("set", "a", 1), ("gone", "a"))


class Kinds(Checks):
    def test_moves(self):
        for move in MOVES:
            self.told(True, is_move, move)
            self.told(False, is_moves, move)
            self.told(False, is_shapes, move)

    def test_no_moves(self):
        for thing in NO_MOVES + ODD_THINGS:
            self.told(False, is_move, thing)
            self.told(False, is_moves, (thing,))
            self.told(False, is_moves, (MOVES[0], thing))
            self.told(False, is_moves, (thing, MOVES[0]))
            self.told(False, is_shapes, ((), (MOVES[0], thing)))

    def test_wrong_parts(self):
        for word in NO_WORDS:
            for move in (("put", word, 1), ("move", word, "a"), ("move", "a", word), ("cut", word),
                         ("into", word, "a"), ("into", "a", word), ("out", word, "a"), ("out", "a", word)):
                self.told(False, is_move, move)
        for value in NO_VALUES:
            self.told(False, is_move, ("put", "a", value))

    def test_tuples_of_moves(self):
        for thing in ((), MOVES, MOVES[:1], MOVES * 50):
            self.told(True, is_moves, thing)
            self.told(True, is_shapes, (thing,))
            self.told(True, is_shapes, ((), thing, thing))
        for thing in (None, 0, "", [], list(MOVES), [()], (None,), ((),), (MOVES,), ([MOVES[0]],), {}):
            self.told(False, is_moves, thing)

    def test_shapes(self):
        for thing in ((), ((),), ((), ()), (MOVES,), (MOVES, (), MOVES)):
            self.told(True, is_shapes, thing)
        for thing in (None, 0, "", [], [()], ([],), (list(MOVES),), [MOVES], (MOVES, None), MOVES, ((MOVES,),), {}):
            self.told(False, is_shapes, thing)


class Moved(Checks):
    def leads(self, document, move, answer):
        self.told(answer, moved, document, move)

    def test_put(self):
        self.leads(tree(), ("put", "a", 1), tree(a=1))
        self.leads(tree(b=1), ("put", "a", row(True)), tree(a=row(True), b=1))
        self.leads(tree(a=1), ("put", "a", True), tree(a=1))
        self.leads(tree(a=tree()), ("put", "a", 2), tree(a=tree()))
        self.leads(tree(b=tree(a=1)), ("put", "a", 2), tree(a=2, b=tree(a=1)))

    def test_move(self):
        self.leads(tree(a=1, c=2), ("move", "a", "d"), tree(c=2, d=1))
        self.leads(tree(c=tree(x=True)), ("move", "c", "b"), tree(b=tree(x=True)))
        self.leads(tree(b=1), ("move", "a", "c"), tree(b=1))
        self.leads(tree(), ("move", "a", "b"), tree())
        self.leads(tree(a=1, b=1), ("move", "a", "b"), None)
        self.leads(tree(b=1), ("move", "a", "b"), tree(b=1))

    def test_move_to_itself(self):
        self.leads(tree(a=1), ("move", "a", "a"), None)
        self.leads(tree(b=1), ("move", "a", "a"), tree(b=1))

    def test_cut(self):
        self.leads(tree(a=1, b=2), ("cut", "a"), tree(b=2))
        self.leads(tree(a=tree(b=1)), ("cut", "a"), tree())
        self.leads(tree(b=tree(a=1)), ("cut", "a"), tree(b=tree(a=1)))
        self.leads(tree(), ("cut", "a"), tree())

    def test_into(self):
        self.leads(tree(a=1, b=2), ("into", "a", "b"), tree(a=tree(b=1), b=2))
        self.leads(tree(a=tree(a=1)), ("into", "a", "a"), tree(a=tree(a=tree(a=1))))
        self.leads(tree(b=1), ("into", "a", "c"), tree(b=1))

    def test_out(self):
        self.leads(tree(a=tree(b=1, c=2)), ("out", "a", "b"), tree(a=tree(c=2), b=1))
        self.leads(tree(b=tree(a=row())), ("out", "b", "a"), tree(a=row(), b=tree()))

    def test_out_of_what_is_missing(self):
        self.leads(tree(b=1), ("out", "a", "b"), tree(b=1))
        self.leads(tree(), ("out", "a", "a"), tree())

    def test_out_of_what_is_no_tree(self):
        for value in (1, True, "", row(), row(tree(b=1))):
            self.leads(tree(a=value), ("out", "a", "b"), None)
            self.leads(tree(a=value, b=1), ("out", "a", "b"), None)
            self.leads(tree(a=value), ("out", "a", "a"), None)

    def test_out_of_what_has_no_other(self):
        self.leads(tree(a=tree(c=1)), ("out", "a", "b"), tree(a=tree(c=1)))
        self.leads(tree(a=tree(c=1), b=2), ("out", "a", "b"), tree(a=tree(c=1), b=2))
        self.leads(tree(a=tree()), ("out", "a", "a"), tree(a=tree()))

    def test_out_where_other_is_there(self):
        self.leads(tree(a=tree(b=1), b=2), ("out", "a", "b"), None)
        self.leads(tree(a=tree(b=1), b=1), ("out", "a", "b"), None)
        self.leads(tree(a=tree(a=1)), ("out", "a", "a"), None)

    def test_many(self):
        source = random.Random(50)
        led = 0
        for _ in range(4000):
            document, move = a_paper(source), a_move(source)
            answer = plain_moved_or_none(document, move)
            self.leads(document, move, answer)
            if answer is not None:
                led += 1
                self.assertTrue(is_document(moved(document, move)))
        self.assertTrue(2000 < led < 3999)

    def test_into_and_out_lead_back(self):
        source = random.Random(51)
        for _ in range(300):
            document = tree(a=a_value(source), d=a_value(source))
            wrapped = moved(document, ("into", "a", "b"))
            back = moved(moved(moved(wrapped, ("out", "a", "b")), ("cut", "a")), ("move", "b", "a"))
            self.assertEqual(shape_of(back), shape_of(document))
