"""[33], [34]: what a KEPT tells behind each ENTRY, and behind refused ones."""

import random

from pathfolios.keeping import Kept
from pathfolios.keys import rows_of
from pathfolios.leading import led_all
from tests.checks import Checks, at, refusal_of, row, tree
from tests.makers import ODD_THINGS, shape_of
from tests.pasts import NOTHING, a_history, an_entry, some_stands
from tests.plainly import plain_claim_fit, plain_let_in, plain_rows, plain_stands

BY = ("by", at("a", "*"), False, None)
N = ("n", at("b"), True, None)
STANDS = ((("x", tree(a=row(1, 2), b=7), 0), ("y", tree(a=row(2, True)), 0)), (BY, N), ((), (("cut", "c"),)))


def all_rows(stands):
    return {index[0]: plain_rows(stands, index[0]) for index in stands[1]}


def triples_at(stands):
    return set([shape_of((name, key, holder)) for name, rows in all_rows(stands).items() for key, holder in rows])


class Keeping(Checks):
    def keeps(self, kept, stands):
        """A KEPT tells what STANDS, and the ROWS that are gone through anew."""
        self.assertEqual(shape_of(kept.stands()), shape_of(stands))
        for name, rows in all_rows(stands).items():
            self.assertEqual(shape_of(kept.rows(name)), shape_of(rows))
            self.assertEqual(shape_of(rows_of(stands, name)), shape_of(rows))
        self.assertEqual(len(kept), sum([len(rows) for rows in all_rows(stands).values()]))
        parts = [name + ":" + str(len(rows)) for name, rows in sorted(all_rows(stands).items())]
        self.assertEqual(str(kept), " ".join(parts) if parts else "-")
        self.assertIs(type(kept.stands()), tuple)
        self.refused("NoName", ("other",), kept.rows, "other")

    def does_entry(self, stands, entry, counts):
        """An ENTRY is DONE at a KEPT of what STANDS, with these counts, and is what STANDS behind it."""
        kept = Kept(stands)
        behind = plain_let_in(stands, entry)
        came = triples_at(behind) - triples_at(stands)
        went = triples_at(stands) - triples_at(behind)
        self.assertEqual((len(came), len(went)), counts)
        self.told(counts, kept.done, entry)
        self.keeps(kept, behind)
        self.assertTrue(kept == Kept(behind))
        self.keeps(Kept(behind), behind)

    def test_made(self):
        for stands in (NOTHING, STANDS, (STANDS[0], (), ()), ((), (BY, N), ())):
            self.keeps(Kept(stands), stands)
            self.keeps(Kept(stands=stands), stands)

    def test_put(self):
        self.does_entry(STANDS, ("put", "z", tree(a=row(1, "q"), b=8), 2), (3, 0))
        self.does_entry(STANDS, ("put", "z", tree(), 2), (0, 0))
        self.does_entry(STANDS, ("put", "a", tree(a=row(1)), 0), (1, 0))

    def test_put_again(self):
        self.does_entry(STANDS, ("put", "x", tree(a=row(3, 2), b=8), 0), (2, 2))
        self.does_entry(STANDS, ("put", "x", tree(a=row("1", True), b=7), 0), (2, 2))
        self.does_entry(STANDS, ("put", "x", tree(a=row(2, 1, 1), b=7, c=4), 2), (0, 0))
        self.does_entry(STANDS, ("put", "x", tree(), 0), (0, 3))
        self.does_entry(STANDS, ("put", "y", tree(a=row(2, 1)), 0), (1, 1))

    def test_gone(self):
        self.does_entry(STANDS, ("gone", "x"), (0, 3))
        self.does_entry(STANDS, ("gone", "y"), (0, 2))

    def test_index(self):
        self.does_entry(STANDS, ("index", "far", at("a", 0), False, None), (2, 0))
        self.does_entry(STANDS, ("index", "zz", at("c"), True, None), (0, 0))
        self.does_entry(NOTHING, ("index",) + BY, (0, 0))

    def test_index_in_the_place_of_another_one(self):
        self.does_entry(STANDS, ("index", "by", at("a", 0), False, None), (0, 2))
        self.does_entry(STANDS, ("index", "by", at("b"), True, None), (1, 4))
        self.does_entry(STANDS, ("index",) + BY, (0, 0))
        self.does_entry(STANDS, ("index", "by", at("a", "*"), False, ("there", at("b"))), (0, 2))
        self.does_entry(STANDS, ("index", "n", at("a", 1), True, None), (2, 1))

    def test_bare(self):
        self.does_entry(STANDS, ("bare", "by"), (0, 4))
        self.does_entry(STANDS, ("bare", "n"), (0, 1))

    def test_shape(self):
        self.does_entry(STANDS, ("shape", ()), (0, 0))
        self.does_entry(STANDS, ("shape", (("cut", "a"),)), (0, 4))
        self.does_entry(STANDS, ("shape", (("cut", "a"), ("move", "b", "a"))), (0, 5))
        self.does_entry(STANDS, ("shape", (("cut", "b"), ("put", "a", row(9)))), (0, 1))
        self.does_entry(((("x", tree(c=row(1)), 0),), (BY,), ()), ("shape", (("move", "c", "a"),)), (1, 0))

    def test_refused_ones_turn_nothing(self):
        kept = Kept(STANDS)
        for refusal, entry in ((("NoMark", (3,)), ("put", "x", tree(), 3)), (("NoId", ("by",)), ("gone", "by")),
                               (("NoName", ("x",)), ("bare", "x")),
                               (("NoLead", ("x", 0)), ("shape", (("cut", "a"), ("out", "b", "c")))),
                               (("NoKey", ("n", "y")), ("put", "y", tree(b=7, a=row()), 0)),
                               (("NoKey", ("far", "y")), ("index", "far", at("a", "*"), True, None)),
                               (("NoKey", ("n", "y")), ("shape", (("cut", "b"), ("put", "b", 1))))):
            self.refused(*refusal, kept.done, entry)
            self.keeps(kept, STANDS)
            self.assertTrue(kept == Kept(STANDS))

    def test_str(self):
        for stands, text in ((NOTHING, "-"), (((), (BY,), ()), "by:0"), (((), (BY, N), ()), "by:0 n:0"),
                             (STANDS, "by:4 n:1"), ((STANDS[0], (N,), ()), "n:1"), ((STANDS[0], (), ()), "-")):
            self.assertEqual(str(Kept(stands)), text)
        kept = Kept(STANDS)
        kept.done(("index", "a", at("b"), False, None))
        kept.done(("bare", "n"))
        kept.done(("index", "n", at("c"), False, None))
        kept.done(("index", "by", at("a", 0), False, None))
        self.assertEqual(str(kept), "a:1 by:2 n:0")

    def test_len(self):
        for stands, many in ((NOTHING, 0), (STANDS, 5), (((), (BY, N), ()), 0), ((STANDS[0], (N,), ()), 1)):
            self.assertEqual(len(Kept(stands)), many)

    def test_what_was_told_stays(self):
        kept = Kept(STANDS)
        told = (kept.stands(), kept.rows("by"), kept.rows("n"))
        ahead = shape_of(told)
        kept.done(("gone", "x"))
        kept.done(("bare", "n"))
        self.assertEqual(shape_of(told), ahead)

    def test_many(self):
        source = random.Random(34)
        seen = {}
        for _ in range(100):
            first, begin, entries = a_history(source, source.randrange(4))
            history = a_history(source, 10, stands=plain_stands((first, begin, entries))[first + len(entries)])
            first, begin, entries = history
            marks = plain_stands(history)
            kept = Kept(begin)
            for number, entry in enumerate(entries):
                for _ in range(3):
                    self.trial(kept, marks[first + number], source, seen)
                came = triples_at(marks[first + number + 1]) - triples_at(marks[first + number])
                went = triples_at(marks[first + number]) - triples_at(marks[first + number + 1])
                self.told((len(came), len(went)), kept.done, entry)
                self.keeps(kept, marks[first + number + 1])
                self.assertTrue(kept == Kept(marks[first + number + 1]))
        self.assertEqual(set(seen), {None, "NoMark", "NoId", "NoName", "NoLead", "NoKey"})

    def trial(self, kept, stands, source, seen):
        """Tries an ENTRY at a KEPT, where it is refused."""
        entry = an_entry(source, stands)
        refusal = refusal_of(plain_let_in, stands, entry)
        seen[refusal and refusal[0]] = True
        if refusal is not None:
            self.refused(*refusal, kept.done, entry)
            self.keeps(kept, stands)

    def test_all_led_have_the_same_rows(self):
        source = random.Random(530)
        seen = 0
        for _ in range(500):
            stands = some_stands(source)
            if refusal_of(plain_claim_fit, stands) is None:
                for index in stands[1]:
                    rows = Kept(stands).rows(index[0])
                    self.assertEqual(shape_of(Kept(led_all(stands)).rows(index[0])), shape_of(rows))
                    seen += len(rows) > 0
        self.assertGreater(seen, 20)


class Equal(Checks):
    def equal(self, one, other, so):
        for left, right in ((one, other), (other, one)):
            self.assertIs(left == right, so)
            self.assertIs(left != right, not so)

    def test_like_ones(self):
        for stands in (NOTHING, STANDS):
            self.equal(Kept(stands), Kept(stands), True)
            kept = Kept(stands)
            self.equal(kept, kept, True)
        kept = Kept(STANDS)
        kept.done(("gone", "x"))
        self.equal(kept, Kept(STANDS), False)
        kept.done(("put",) + STANDS[0][0])
        self.equal(kept, Kept(STANDS), True)

    def test_unlike_ones(self):
        document, indexes, shapes = STANDS
        for stands in (NOTHING, (document[:1], indexes, shapes), (document, indexes[:1], shapes),
                       (document, indexes, shapes + ((),)), (document, indexes, ((), ())),
                       (document, (BY[:3] + (("and", ()),), N), shapes), (document, (), ())):
            self.equal(Kept(stands), Kept(STANDS), False)

    def test_like_rows_of_unlike_things_that_stand(self):
        self.equal(Kept(((("x", tree(a=1), 0),), (), ())), Kept(((("x", tree(a=2), 0),), (), ())), False)
        self.equal(Kept(((("x", tree(), 0),), (), ((),))), Kept(((("x", tree(), 1),), (), ((),))), False)

    def test_a_truth_beside_a_number_is_unlike(self):
        self.equal(Kept(((("x", tree(a=True), 0),), (), ())), Kept(((("x", tree(a=1), 0),), (), ())), False)
        self.equal(Kept(((), (("n", at("a"), True, ("like", at("a"), 0)),), ())),
                   Kept(((), (("n", at("a"), True, ("like", at("a"), False)),), ())), False)
        self.equal(Kept(((), (), ((("put", "a", row(1)),),))), Kept(((), (), ((("put", "a", row(True)),),))), False)

    def test_other_things(self):
        for thing in ODD_THINGS + (STANDS, NOTHING, "-", "by:4 n:1", 0, 5, True, (), {}):
            self.equal(Kept(STANDS), thing, False)
            self.equal(Kept(NOTHING), thing, False)
