"""[7], [28]: whether what STANDS is FIT, what STANDS behind an ENTRY, and each refusal in its turn."""

import random

from pathfolios.entries import is_stands
from pathfolios.standing import is_fit, let_in
from tests.checks import Checks, at, refusal_of, row, tree
from tests.pasts import NOTHING, a_history, an_entry, some_moves, some_stands
from tests.plainly import plain_behind, plain_claim_fit, plain_let_in, plain_stands

ONE = ("by", at("a"), True, None)
MANY = ("by", at("a"), False, None)
EACH = ("n", at("r", "*"), True, None)
STOP = ("out", "a", "stop")


def of(*documents):
    """Documents of edition 0, by ids that rise."""
    return tuple([(holder, document, 0) for holder, document in zip("abcdefgh", documents)])


class Fit(Checks):
    def fit(self, stands, so):
        self.told(so, is_fit, stands)

    def test_fit(self):
        self.fit(NOTHING, True)
        self.fit((of(tree(a=1), tree(a=2)), (ONE,), ()), True)
        self.fit((of(tree(a=1), tree(a=True), tree(a="1")), (ONE,), ()), True)
        self.fit((of(tree(a=1), tree(a=1)), (MANY,), ()), True)
        self.fit((of(tree(a=row(1)), tree(a=row(1))), (ONE,), ()), True)
        self.fit((of(tree(a=tree()), tree()), (), ((STOP,),)), True)

    def test_it_cant_be_led(self):
        self.fit((of(tree(a=1)), (), ((STOP,),)), False)
        self.fit((of(tree(), tree(a=1)), (), ((), (STOP,))), False)
        self.fit(((("a", tree(a=1), 1),), (), ((STOP,),)), True)
        self.fit(((("a", tree(a=1), 0), ("b", tree(a=1), 1)), (ONE,), ((("cut", "a"),),)), True)

    def test_an_index_isnt_sound(self):
        self.fit((of(tree(a=1), tree(a=1)), (ONE,), ()), False)
        self.fit((of(tree(a=1), tree(a=2), tree(a=2)), (MANY, ("n",) + ONE[1:]), ()), False)
        self.fit((of(tree(a=1), tree(a=1)), (ONE[:3] + (("there", at("b")),),), ()), True)
        self.fit((of(tree(a=1, b=1), tree(a=1, b=2)), (ONE[:3] + (("there", at("b")),),), ()), False)
        self.fit((of(tree(r=row(1, 2)), tree(r=row(2, 3))), (EACH,), ()), False)

    def test_one_document_that_has_a_key_twice(self):
        self.fit((of(tree(r=row(1, 1)), tree(r=row(2, 2))), (EACH,), ()), True)

    def test_elder_documents_are_led_first(self):
        shapes = ((("move", "b", "a"),),)
        self.fit(((("a", tree(b=1), 0), ("b", tree(a=1), 1)), (ONE,), shapes), False)
        self.fit(((("a", tree(b=1), 0), ("b", tree(b=1), 1)), (ONE,), shapes), True)

    def test_many(self):
        source = random.Random(281)
        seen = {True: 0, False: 0}
        for _ in range(1000):
            stands = some_stands(source)
            so = refusal_of(plain_claim_fit, stands) is None
            seen[so] += 1
            self.fit(stands, so)
        self.assertGreater(min(seen.values()), 150)


class LetIn(Checks):
    STANDS = (of(tree(a=1), tree(a=2)), (ONE, EACH), ((), ()))

    def leads(self, stands, entry, answer):
        self.told(answer, let_in, stands, entry)

    def test_put(self):
        documents, indexes, shapes = self.STANDS
        self.leads(NOTHING, ("put", "x", tree(), 0), ((("x", tree(), 0),), (), ()))
        self.leads(self.STANDS, ("put", "x", tree(a=3), 1), (documents + (("x", tree(a=3), 1),), indexes, shapes))
        self.leads(self.STANDS, ("put", "aa", tree(), 2),
                   (documents[:1] + (("aa", tree(), 2),) + documents[1:], indexes, shapes))
        self.leads(self.STANDS, ("put", "a", tree(a=True), 0),
                   ((("a", tree(a=True), 0),) + documents[1:], indexes, shapes))
        self.leads(self.STANDS, ("put", "b", tree(a=2), 2), (documents[:1] + (("b", tree(a=2), 2),), indexes, shapes))

    def test_gone(self):
        documents, indexes, shapes = self.STANDS
        self.leads(self.STANDS, ("gone", "a"), (documents[1:], indexes, shapes))
        self.leads(self.STANDS, ("gone", "b"), (documents[:1], indexes, shapes))

    def test_index(self):
        documents, indexes, shapes = self.STANDS
        self.leads(NOTHING, ("index",) + ONE, ((), (ONE,), ()))
        self.leads(self.STANDS, ("index",) + MANY, (documents, (MANY, EACH), shapes))
        other = ("f", at("b"), True, ("there", at("a")))
        self.leads(self.STANDS, ("index",) + other, (documents, (ONE, other, EACH), shapes))

    def test_bare(self):
        documents, indexes, shapes = self.STANDS
        self.leads(self.STANDS, ("bare", "by"), (documents, (EACH,), shapes))
        self.leads(self.STANDS, ("bare", "n"), (documents, (ONE,), shapes))

    def test_shape(self):
        documents, indexes, shapes = self.STANDS
        self.leads(NOTHING, ("shape", ()), ((), (), ((),)))
        moves = (("cut", "a"), ("put", "r", row()))
        self.leads(self.STANDS, ("shape", moves), (documents, indexes, shapes + (moves,)))

    def test_put_of_an_edition_above_the_newest(self):
        for edition in (3, 4, 10 ** 59):
            self.refused("NoMark", (edition,), let_in, self.STANDS, ("put", "x", tree(a=3), edition))
        self.refused("NoMark", (1,), let_in, NOTHING, ("put", "x", tree(), 1))

    def test_gone_and_bare_of_what_isnt_there(self):
        for name in ("x", "aa", "by", "n"):
            self.refused("NoId", (name,), let_in, self.STANDS, ("gone", name))
        for name in ("x", "bye", "a", "b"):
            self.refused("NoName", (name,), let_in, self.STANDS, ("bare", name))
        self.refused("NoId", ("a",), let_in, NOTHING, ("gone", "a"))
        self.refused("NoName", ("by",), let_in, NOTHING, ("bare", "by"))

    def test_a_put_that_cant_be_led(self):
        stands = (of(tree(b=1), tree(c=1)), (), ((), (STOP,), ()))
        for edition in (0, 1):
            self.refused("NoLead", ("x", edition), let_in, stands, ("put", "x", tree(a=1), edition))
            self.refused("NoLead", ("a", edition), let_in, stands, ("put", "a", tree(a=1), edition))
        for edition in (2, 3):
            self.assertTrue(is_stands(let_in(stands, ("put", "x", tree(a=1), edition))))

    def test_a_shape_by_which_a_document_cant_be_led(self):
        documents = (("a", tree(b=1), 1), ("b", tree(a=1), 1), ("c", tree(a=1), 0), ("d", tree(a=1), 2))
        stands = (documents, (), ((), ()))
        self.refused("NoLead", ("b", 1), let_in, stands, ("shape", (STOP,)))
        self.refused("NoLead", ("c", 0), let_in, (documents[:1] + documents[2:], (), ((), ())), ("shape", (STOP,)))
        self.refused("NoLead", ("a", 1), let_in, stands, ("shape", (("put", "a", 1), STOP)))
        self.refused("NoLead", ("d", 2), let_in, (documents[:1] + documents[3:], (), ((), ())), ("shape", (STOP,)))

    def test_a_key_twice_by_put(self):
        stands = (of(tree(a=1), tree(a=2)), (ONE,), ())
        self.refused("NoKey", ("by", "x"), let_in, stands, ("put", "x", tree(a=1), 0))
        self.refused("NoKey", ("by", "x"), let_in, stands, ("put", "x", tree(a=2), 0))
        self.refused("NoKey", ("by", "b"), let_in, stands, ("put", "a", tree(a=2), 0))
        self.refused("NoKey", ("by", "b"), let_in, stands, ("put", "aa", tree(a=2), 0))
        self.assertTrue(is_stands(let_in(stands, ("put", "a", tree(a=1), 0))))
        self.assertTrue(is_stands(let_in(stands, ("put", "x", tree(a=True), 0))))

    def test_a_key_twice_by_index(self):
        documents = of(tree(a=2, b=9), tree(a=1, b=9), tree(a=2, b=9), tree(a=1, b=8), tree(a=2))
        stands = (documents, (), ())
        self.refused("NoKey", ("x", "d"), let_in, stands, ("index", "x", at("a"), True, None))
        self.refused("NoKey", ("x", "b"), let_in, stands, ("index", "x", at("b"), True, None))
        self.refused("NoKey", ("x", "c"), let_in, stands, ("index", "x", at("a"), True, ("above", at("a"), 1)))
        self.assertTrue(is_stands(let_in(stands, ("index", "x", at("a"), False, None))))
        self.assertTrue(is_stands(let_in(stands, ("index", "x", at("a"), True, ("above", at("a"), 2)))))

    def test_a_key_twice_by_shape(self):
        stands = (of(tree(b=3), tree(b=1), tree(b=1), tree(a=3)), (ONE,), ())
        self.refused("NoLead", ("a", 0), let_in, stands, ("shape", (("put", "a", 0), ("move", "b", "a"))))
        self.refused("NoKey", ("by", "b"), let_in, stands, ("shape", (("put", "a", 0),)))
        stands = (of(tree(b=3), tree(b=1), tree(b=1)), (ONE,), ())
        self.refused("NoKey", ("by", "c"), let_in, stands, ("shape", (("move", "b", "a"),)))

    def test_the_first_index_the_first_key_the_two_least_ids(self):
        documents = of(tree(a=2, b="y"), tree(a=2, b="x"), tree(a=1, b="y"), tree(a=1, b="z"), tree(a=1, b="x"))
        both = (("move", "a", "p"), ("move", "b", "q"))
        for names, told in ((("c", "d"), ("c", "d")), (("d", "c"), ("c", "e")), (("x", "f"), ("f", "e"))):
            one, other = (names[0], at("p"), True, None), (names[1], at("q"), True, None)
            stands = (documents, tuple(sorted((one, other), key=lambda index: index[0])), ())
            self.refused("NoKey", told, let_in, stands, ("shape", both))
        stands = (documents, (("c", at("p"), False, None), ("d", at("p"), True, None)), ())
        self.refused("NoKey", ("d", "d"), let_in, stands, ("shape", both))
        mixed = of(tree(b=1), tree(b=True), tree(b="1"), tree(b="1"), tree(b=1), tree(b=True))
        self.refused("NoKey", ("x", "f"), let_in, (mixed, (), ()), ("index", "x", at("b"), True, None))

    def test_one_document_that_has_a_key_twice(self):
        stands = (of(tree(r=row(1, 1))), (EACH,), ())
        self.assertTrue(is_stands(let_in(stands, ("put", "x", tree(r=row(2, 2, 3)), 0))))
        self.refused("NoKey", ("n", "x"), let_in, stands, ("put", "x", tree(r=row(2, 2, 1)), 0))

    def test_several_refusals_due_at_once(self):
        documents, shapes = of(tree(b=1), tree(b=2)), ((STOP,), ())
        stands = (documents, (("by", at("b"), True, None),), shapes)
        # An edition above the NEWEST goes ahead of a KEY twice.
        self.refused("NoMark", (3,), let_in, stands, ("put", "x", tree(b=1), 3))
        # What can't be LED goes ahead of a KEY twice.
        self.refused("NoLead", ("x", 0), let_in, stands, ("put", "x", tree(a=1, b=1), 0))
        self.refused("NoKey", ("by", "x"), let_in, stands, ("put", "x", tree(a=1, b=1), 1))
        self.refused("NoLead", ("b", 0), let_in, (of(tree(b=1), tree(a=1)), stands[1], ()),
                     ("shape", (("put", "b", 1), STOP)))
        self.refused("NoKey", ("by", "b"), let_in, (of(tree(b=1), tree(a=1)), stands[1], ()),
                     ("shape", (("put", "b", 1),)))

    def test_many(self):
        source = random.Random(28)
        seen = {}
        for _ in range(80):
            for stands in plain_stands(a_history(source, source.randrange(12))).values():
                for _ in range(4):
                    entry = an_entry(source, stands)
                    self.does(plain_let_in, let_in, stands, entry)
                    refusal = refusal_of(let_in, stands, entry)
                    seen[refusal and refusal[0]] = seen.get(refusal and refusal[0], 0) + 1
                    if refusal is None:
                        self.assertTrue(is_stands(let_in(stands, entry)))
                        self.fit_behind(stands, entry)
        self.assertEqual(set(seen), {None, "NoMark", "NoId", "NoName", "NoLead", "NoKey"})

    def fit_behind(self, stands, entry):
        self.told(True, is_fit, let_in(stands, entry))
        self.told(plain_behind(stands, entry), let_in, stands, entry)

    def test_shapes_of_what_stands(self):
        source = random.Random(29)
        seen = {True: 0, False: 0}
        for _ in range(600):
            stands = a_history(source, 5)
            stands = plain_stands(stands)[stands[0] + 5]
            entry = ("shape", some_moves(source, 4))
            self.does(plain_let_in, let_in, stands, entry)
            seen[refusal_of(let_in, stands, entry) is None] += 1
        self.assertGreater(min(seen.values()), 50)
