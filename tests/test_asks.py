"""[37]: what is ASKED by a TEST of what STANDS, with and without an order."""

import random

from pathfolios.asks import asked_all
from pathfolios.bounds import NONE_BUT
from pathfolios.leading import led_all, view_of
from pathfolios.meeting import meets
from tests.checks import Checks, at, refusal_of, row, tree
from tests.makers import PLAINS, a_path, a_path_in, a_test, shape_of
from tests.pasts import a_paper, some_stands
from tests.plainly import kind_of, plain_claim_fit, plain_keys

PAIRS = (("a", tree(k=5, n=1)), ("b", tree(k="x", n=2)), ("c", tree(k=True, n=3)), ("d", tree(n=4)),
         ("e", tree(k=row(9, 5), n=5)), ("f", tree(k=-1)), ("g", tree(k=5, n=True)), ("h", tree(k=tree(k=0))))
STANDS = (tuple([pair + (0,) for pair in PAIRS]), (), ())
VIEW = dict(PAIRS)


class Asked(Checks):
    def asked(self, test, holders, **order):
        self.told(tuple([(holder, VIEW[holder]) for holder in holders]), asked_all, STANDS, test, **order)

    def test_tests_of_each_word(self):
        self.asked(("there", at("n")), "abcdeg")
        self.asked(("like", at("k"), 5), "ag")
        self.asked(("like", at("n"), 1), "a")
        self.asked(("like", at("n"), True), "g")
        self.asked(("below", at("n"), 3), "ab")
        self.asked(("above", at("n"), 3), "de")
        self.asked(("not", ("there", at("n"))), "fh")
        self.asked(("and", (("there", at("n")), ("there", at("k")))), "abceg")
        self.asked(("or", (("like", at("k"), "x"), ("like", at("k"), -1))), "bf")

    def test_all_and_none(self):
        self.asked(NONE_BUT, "abcdefgh")
        self.asked(("or", ()), "")
        self.asked(("like", at("zz"), 1), "", order=at("k"))
        self.told((), asked_all, ((), (), ()), NONE_BUT)
        self.told((), asked_all, ((), (), ()), NONE_BUT, order=at("k"))

    def test_without_an_order(self):
        self.asked(NONE_BUT, "abcdefgh", order=None)
        self.asked(("there", at("k")), "abcefgh", order=None)

    def test_order(self):
        # Truths, then NUMBERS, then TEXTS; like KEYS by ids; those without a PLAIN behind all, by ids.
        self.asked(NONE_BUT, "cfagbdeh", order=at("k"))
        self.asked(NONE_BUT, "gabcdefh", order=at("n"))
        self.asked(("above", at("n"), 1), "cbde", order=at("k"))

    def test_order_by_several(self):
        documents = (row(3, "a"), row(7, 2), row(9, True), row(), row(tree(), "b"), row(tree()), row(2, 5))
        pairs = tuple([(holder, tree(k=held)) for holder, held in zip("abcdefg", documents)])
        stands = (tuple([pair + (0,) for pair in pairs]), (), ())
        view = dict(pairs)
        self.told(tuple([(holder, view[holder]) for holder in "cbgaedf"]), asked_all, stands, NONE_BUT,
                  order=at("k", "*"))

    def test_order_by_a_path_that_finds_nothing(self):
        self.asked(NONE_BUT, "abcdefgh", order=at("zz"))
        self.asked(NONE_BUT, "habcdefg", order=at("k", "k"))

    def test_numbers_and_texts_in_order(self):
        plains = ("9", 10, "10", 9, -9, "", False, 0)
        pairs = tuple([(holder, tree(k=plain)) for holder, plain in zip("abcdefgh", plains)])
        stands = (tuple([pair + (0,) for pair in pairs]), (), ())
        view = dict(pairs)
        self.told(tuple([(holder, view[holder]) for holder in "gehdbfca"]), asked_all, stands, NONE_BUT, order=at("k"))

    def test_documents_are_led_first(self):
        shapes = ((("move", "k", "n"),),)
        stands = ((("a", tree(k=2), 0), ("b", tree(k=1), 1), ("c", tree(k=1), 0), ("d", tree(n=0), 1)), (), shapes)
        self.told((("a", tree(n=2)), ("c", tree(n=1)), ("d", tree(n=0))), asked_all, stands, ("there", at("n")))
        self.told((("d", tree(n=0)), ("c", tree(n=1)), ("a", tree(n=2))), asked_all, stands, ("there", at("n")),
                  order=at("n"))
        self.told((("b", tree(k=1)),), asked_all, stands, ("there", at("k")), order=at("k"))

    def test_many(self):
        source = random.Random(37)
        seen = 0
        for _ in range(1000):
            stands = some_stands(source)
            if refusal_of(plain_claim_fit, stands) is not None:
                continue
            test = a_test(source, a_paper(source))
            order = source.choice((a_path(source), a_path_in(source, a_paper(source)), at("a"), at("b", "*")))
            pairs = [pair for pair in view_of(stands) if meets(pair[1], test)]
            self.told(tuple(pairs), asked_all, stands, test)
            ranks = {holder: plain_keys(document, order)[:1] for holder, document in pairs}
            having = [(ranks[holder][0], holder) for holder, _ in pairs if ranks[holder]]
            lacking = [holder for holder, _ in pairs if not ranks[holder]]
            view = dict(pairs)
            holders = [holder for _, holder in sorted(having)] + lacking
            self.told(tuple([(holder, view[holder]) for holder in holders]), asked_all, stands, test, order=order)
            self.does(asked_all, asked_all, led_all(stands), test, order=order)
            self.assertEqual(shape_of(asked_all(led_all(stands), test)), shape_of(tuple(pairs)))
            seen += holders != sorted(holders)
        self.assertGreater(seen, 20)

    def test_each_two_plains(self):
        for one in PLAINS:
            for other in PLAINS:
                stands = ((("a", tree(k=one), 0), ("b", tree(k=other), 0)), (), ())
                told = [holder for holder, _ in asked_all(stands, NONE_BUT, order=at("k"))]
                so = (kind_of(one), one) <= (kind_of(other), other)
                self.assertEqual(told, ["a", "b"] if so else ["b", "a"])
