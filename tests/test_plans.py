"""[38], [39], [40]: PLANS FOR a TEST, their IDS, what is ASKED through one, and any thing looked at as one."""

import random

from pathfolios.asks import asked_all
from pathfolios.bounds import NONE_BUT
from pathfolios.leading import led_all
from pathfolios.meeting import meets
from pathfolios.planchecker import lets_plan
from pathfolios.plans import asked_by, plan_ids, plans_for
from tests.checks import Checks, at, refusal_of, row, tree
from tests.makers import NO_WORDS, ODD_THINGS, PLAINS, a_path, a_test, a_value, shape_of
from tests.pasts import a_history, a_paper
from tests.plainly import kind_of, plain_rows, plain_stands, plain_view

A = at("a")
ALL = ("all",)
DOCUMENTS = (("a", tree(a=1, b=1), 0), ("b", tree(a=5), 0), ("c", tree(a="x", b=2), 0), ("d", tree(a=True), 0),
             ("e", tree(a=row(2, 9)), 0), ("f", tree(a=5, b=2), 0), ("g", tree(c=5), 1))


def of(*indexes):
    return (DOCUMENTS, indexes, ((), (("move", "c", "a"),)))


BY = ("by", A, False, None)
EACH = ("each", at("a", "*"), False, None)
STANDS = of(BY, EACH)


def plan(low, high, name="by"):
    return ("index", name, low, high)


def has_part(test, parts):
    """Whether a thing is the same, kind by kind, as one of these."""
    return shape_of(test) in [shape_of(part) for part in parts]


def plain_conjuncts(test):
    told = [test]
    if test[0] == "and":
        for part in test[1]:
            told += plain_conjuncts(part)
    return told


def plain_verdict(stands, test, thing):
    """What [39] tells of a PLAN by kind: "name", "test", "bounds", or None where it is let."""
    if thing == ALL:
        return None
    indexes = {index[0]: index for index in stands[1]}
    if thing[1] not in indexes:
        return "name"
    _, path, _, needed = indexes[thing[1]]
    parts = plain_conjuncts(test)
    if needed is not None and not has_part(needed, parts):
        return "test"
    for part in parts:
        if part[0] not in ("like", "below", "above") or shape_of(part[1]) != shape_of(path):
            continue
        if isinstance(part[2], tuple):
            continue
        key = (kind_of(part[2]), part[2])
        _, _, low, high = thing
        low_fits = low is None or (low[0] < key[0] if part[0] == "below" else not key < low)
        high_fits = high is None or (high[0] > key[0] if part[0] == "above" else not high < key)
        if low_fits and high_fits:
            return None
    return "bounds"


class PlansFor(Checks):
    def plans(self, test, *plans, stands=STANDS):
        self.told((ALL,) + plans, plans_for, stands, test)
        for told in (ALL,) + plans:
            self.told(True, lets_plan, stands, test, told)

    def test_none_but_all(self):
        for test in (NONE_BUT, ("or", ()), ("there", A), ("not", ("like", A, 1)), ("or", (("like", A, 1),)),
                     ("like", at("b"), 1), ("like", at("a", "b"), 1), ("like", A, row()), ("like", A, tree()),
                     ("not", ("and", (("like", A, 1),))), ("and", (("or", (("like", A, 1),)), ("not", ("there", A))))):
            self.plans(test)
        self.plans(("like", A, 1), stands=of())

    def test_each_of_the_three(self):
        self.plans(("like", A, 1), plan((1, 1), (1, 1)))
        self.plans(("like", A, True), plan((0, True), (0, True)))
        self.plans(("like", A, ""), plan((2, ""), (2, "")))
        self.plans(("below", A, 5), plan(None, (1, 5)))
        self.plans(("above", A, "x"), plan((2, "x"), None))
        self.plans(("above", at("a", "*"), False), plan((0, False), None, "each"))

    def test_index_by_index_and_conjunct_by_conjunct(self):
        test = ("and", (("above", at("a", "*"), 1), ("below", A, 9), ("there", A), ("above", A, 2)))
        self.plans(test, plan(None, (1, 9)), plan((1, 2), None), plan((1, 1), None, "each"))
        other = ("a", A, True, None)
        self.plans(test, plan(None, (1, 9), "a"), plan((1, 2), None, "a"), plan(None, (1, 9)), plan((1, 2), None),
                   stands=((), (other, BY), ()))

    def test_and_in_and(self):
        test = ("and", (("and", (("like", A, 1), ("and", (("below", A, 2),)))), ("and", ()), ("above", A, 0)))
        self.plans(test, plan((1, 1), (1, 1)), plan(None, (1, 2)), plan((1, 0), None))

    def test_each_plan_once(self):
        one = ("like", A, 1)
        test = ("and", (one, ("like", A, True), one, ("and", (one,)), ("like", A, "1")))
        self.plans(test, plan((1, 1), (1, 1)), plan((0, True), (0, True)), plan((2, "1"), (2, "1")))
        self.plans(("and", (("below", A, 3), ("below", A, 3))), plan(None, (1, 3)))

    def test_an_index_with_a_test(self):
        needed = ("like", at("b"), 1)
        stands = of(BY[:3] + (needed,))
        like = ("like", A, 1)
        for test in (like, ("and", (like, ("or", (needed,)))), ("and", (like, ("not", needed))),
                     ("and", (like, ("like", at("b"), True))), ("or", (like, needed))):
            self.plans(test, stands=stands)
        for test in (("and", (like, needed)), ("and", (("and", (needed,)), like)), ("and", (needed, needed, like))):
            self.plans(test, plan((1, 1), (1, 1)), stands=stands)
        self.plans(like, plan((1, 1), (1, 1)), stands=of(BY[:3] + (like,)))
        whole = ("and", (needed, like))
        self.plans(whole, plan((1, 1), (1, 1)), stands=of(BY[:3] + (whole,)))
        self.plans(("and", (like, needed)), stands=of(BY[:3] + (whole,)))
        self.plans(("and", (like, whole)), plan((1, 1), (1, 1)), stands=of(BY[:3] + (whole,)))

    def test_a_path_that_is_alike_but_for_a_truth(self):
        path = at("r") + (("where", "k", True),)
        other = at("r") + (("where", "k", 1),)
        self.plans(("like", other, 1), stands=of(("by", path, False, None)))
        self.plans(("like", path, 1), plan((1, 1), (1, 1)), stands=of(("by", path, False, None)))


class Ids(Checks):
    def test_all(self):
        self.told(tuple("abcdefg"), plan_ids, STANDS, ALL)
        self.told((), plan_ids, ((), (BY,), ()), ALL)

    def test_bounds(self):
        for low, high, told in ((None, None, "abcdfg"), ((1, 2), None, "bcfg"), ((1, 5), None, "bcfg"),
                                ((1, 6), None, "c"), (None, (1, 4), "ad"), (None, (1, 5), "abdfg"),
                                ((1, 1), (1, 5), "abfg"), ((1, 5), (1, 1), ""), ((0, False), (0, True), "d"),
                                ((2, ""), None, "c"), ((2, "y"), None, ""), (None, (0, False), ""),
                                ((1, 5), (1, 5), "bfg"), ((1, -10 ** 50), (2, "z any text ~"), "abcfg")):
            self.told(tuple(told), plan_ids, STANDS, plan(low, high))

    def test_an_id_stands_once(self):
        self.told(("e",), plan_ids, STANDS, plan(None, None, "each"))
        self.told(("e",), plan_ids, STANDS, plan((1, 3), None, "each"))

    def test_the_test_of_an_index(self):
        self.told(("a", "c", "f"), plan_ids, of(BY[:3] + (("there", at("b")),)), plan(None, None))


class AskedBy(Checks):
    def test_through_a_plan(self):
        view = plain_view(STANDS)
        test = ("and", (("above", A, 1), ("not", ("like", at("b"), 2))))
        pairs = (("b", view["b"]), ("g", view["g"]))
        for told in (ALL, plan((1, 1), None), plan(None, None), plan((0, True), (2, ""))):
            self.told(True, lets_plan, STANDS, test, told)
            self.told(pairs, asked_by, STANDS, test, told)
            self.told(pairs, asked_by, STANDS, test, told, order=None)
            self.told(pairs, asked_by, STANDS, test, told, order=A)

    def test_in_order(self):
        stands = ((("a", tree(a=3), 0), ("b", tree(a=2), 0), ("c", tree(a=2, k=1), 0), ("d", tree(b=1), 0)), (BY,), ())
        view = plain_view(stands)
        for told in (ALL, plan((1, 1), None)):
            for order, holders in ((None, "abc"), (A, "bca"), (at("k"), "cab")):
                self.told(tuple([(holder, view[holder]) for holder in holders]), asked_by, stands, ("above", A, 1),
                          told, order=order)

    def test_at_each_mark_whatever_is_let_turns_no_answer(self):
        source = random.Random(40)
        seen = {"let": 0, "through": 0, "test": 0}
        for _ in range(100):
            history = a_history(source, source.randrange(2, 12))
            for stands in plain_stands(history).values():
                for _ in range(3):
                    test = some_test(source, stands)
                    self.asks(stands, test, source, seen)
        self.assertGreater(seen["let"], 150)
        self.assertGreater(seen["through"], 30)
        self.assertGreater(seen["test"], 20)

    def test_many_keys_that_are_near(self):
        source = random.Random(400)
        seen = {"let": 0, "through": 0, "test": 0}
        indexes = (BY, EACH, ("some", A, False, ("there", at("b"))), ("twice", at("a", "*"), False, ("like", A, 1)))
        for _ in range(120):
            papers = [tree(**{word: source.choice((source.choice(PLAINS), row(*source.sample(PLAINS, 3))))
                              for word in source.sample("abc", 2)}) for _ in range(6)]
            documents = tuple([(holder, paper, source.randrange(2)) for holder, paper in zip("abcdef", papers)])
            stands = (documents, indexes, ((("put", "a", 1),),))
            for _ in range(3):
                self.asks(stands, some_test(source, stands), source, seen)
        self.assertGreater(seen["through"], 100)
        self.assertGreater(seen["test"], 100)

    def asks(self, stands, test, source, seen):
        plans = plans_for(stands, test)
        self.told(plans, plans_for, led_all(stands), test)
        tries = [a_plan(source, stands, test) for _ in range(4)]
        for told in list(plans) + tries:
            word = plain_verdict(stands, test, told)
            if word is not None:
                self.assertNotIn(told, plans)
                self.refused("NoPaper", (word, -1), lets_plan, stands, test, told)
                seen["test"] += word == "test"
                continue
            self.told(True, lets_plan, stands, test, told)
            for order in (None, A, a_path(source)):
                self.told(asked_all(stands, test, order=order), asked_by, stands, test, told, order=order)
            self.ids(stands, told)
            more = ("and", (("there", A), test))
            self.told(True, lets_plan, stands, more, told)
            seen["let"] += told != ALL
            seen["through"] += told != ALL and len(asked_by(stands, test, told)) > 0

    def ids(self, stands, told):
        if told == ALL:
            return self.told(tuple(plain_view(stands)), plan_ids, stands, told)
        _, name, low, high = told
        ids = sorted(set([holder for key, holder in plain_rows(stands, name)
                          if not (low is not None and key < low) and not (high is not None and high < key)]))
        self.told(tuple(ids), plan_ids, stands, told)
        return None

    def test_a_document_that_meets_a_test_meets_its_conjuncts(self):
        source = random.Random(41)
        for _ in range(500):
            document = a_paper(source)
            test = ("and", (a_test(source, document), ("and", (a_test(source, document),))))
            if meets(document, test):
                for part in plain_conjuncts(test):
                    self.told(True, meets, document, part)


def some_test(source, stands):
    """A TEST, often with a CONJUNCT that has the path of an INDEX, and with its test, and often met."""
    papers = [document for _, document, _ in stands[0]] or [a_paper(source)]
    parts = [a_test(source, source.choice(papers), 1) for _ in range(source.randrange(4) == 0)]
    for name, path, _, needed in source.sample(stands[1], min(len(stands[1]), source.choice((0, 1, 1, 1, 2)))):
        plains = [key[1] for key, _ in plain_rows(stands, name)] or PLAINS
        if source.randrange(8) > 0:
            word = source.choice(("like", "like", "below", "above"))
            odd = source.randrange(6) == 0
            parts.append((word, path, a_value(source, 1) if word == "like" and odd else source.choice(plains)))
        if needed is not None and source.randrange(3) > 0:
            parts.append(source.choice((needed, ("and", (needed,)))))
    source.shuffle(parts)
    return parts[0] if len(parts) == 1 else ("and", tuple(parts))


def a_plan(source, stands, test):
    """A PLAN by kind, near to those that are let."""
    ends = [None] + [(kind_of(plain), plain) for plain in PLAINS]
    ends += [(kind_of(part[2]), part[2]) for part in plain_conjuncts(test)
             if part[0] in ("like", "below", "above") and not isinstance(part[2], tuple)]
    name = source.choice([index[0] for index in stands[1]] + ["other"])
    return plan(source.choice(ends + [None] * 5), source.choice(ends + [None] * 5), name)


class LetsPlan(Checks):
    def lets(self, test, thing, stands=STANDS):
        self.told(True, lets_plan, stands, test, thing)

    def no_plan(self, word, test, thing, stands=STANDS):
        for _ in range(2):
            self.refused("NoPaper", (word, -1), lets_plan, stands, test, thing)

    def test_all_is_always_let(self):
        for test in (NONE_BUT, ("or", ()), ("like", A, 1)):
            for stands in (STANDS, ((), (), ())):
                self.lets(test, ALL, stands)

    def test_shape(self):
        for thing in ODD_THINGS + ("all", ["all"], ("all", "by"), ("All",), (ALL,), (None,), ("",), (), ("index",),
                                   ("index", "by"), ("index", "by", None), ("index", "by", None, None, None),
                                   ["index", "by", None, None], ("all", "by", None, None), ("Index", "by", None, None),
                                   ("by", None, None), (("index", "by", None, None),), (["all"],), (1,), (True,)):
            for stands in (STANDS, of()):
                self.no_plan("shape", ("like", A, 1), thing, stands)
        for word in NO_WORDS:
            self.no_plan("shape", ("like", A, 1), ("index", word, None, None))
        for end in ((1, True), (0, 1), (0, 0), (2, 1), (1, "a"), (3, 1), (3, "a"), (-1, "a"),
                    (True, 1), (False, False), (1,), (1, 1, 1),
                    [1, 1], 1, True, "a", (), (1, None), (None, None), (1, 1.0), (1.0, 1), (1, (1,)), ("1", 1)):
            self.no_plan("shape", ("like", A, 1), plan(end, None))
            self.no_plan("shape", ("like", A, 1), plan(None, end))
            self.no_plan("shape", ("like", A, 1), plan(end, None, "other"))

    def test_any_text_is_a_key(self):
        self.lets(("like", A, "x"), plan((2, ""), (2, "~ any text at all, " * 200)))
        self.no_plan("bounds", ("like", A, "x"), plan((2, "~"), None))
        self.lets(("like", A, "x"), plan((2, "A B"), (2, "x y")))

    def test_name(self):
        for name in ("bye", "b", "other", "a"):
            self.no_plan("name", ("like", A, 1), plan((1, 1), (1, 1), name))
        self.no_plan("name", NONE_BUT, plan(None, None), of())
        self.no_plan("name", NONE_BUT, plan(None, None), of(EACH))

    def test_test(self):
        stands = of(BY[:3] + (("like", at("b"), 1),))
        for test in (("like", A, 1), NONE_BUT, ("like", at("b"), True), ("or", (("like", at("b"), 1),)),
                     ("not", ("like", at("b"), 1))):
            self.no_plan("test", test, plan(None, None), stands)
        self.no_plan("bounds", ("like", at("b"), 1), plan(None, None), stands)
        self.lets(("and", (("like", at("b"), 1), ("like", A, 1))), plan(None, None), stands)

    def test_no_conjunct_of_the_three(self):
        for test in (NONE_BUT, ("there", A), ("like", at("b"), 1), ("like", A, row(1)), ("not", ("like", A, 1)),
                     ("or", (("like", A, 1),)), ("like", at("a", "*"), 1)):
            self.no_plan("bounds", test, plan(None, None))

    def test_bounds_of_like(self):
        test = ("like", A, 5)
        for low in (None, (1, 5), (1, 4), (1, -10 ** 50), (0, True), (0, False)):
            for high in (None, (1, 5), (1, 6), (2, ""), (2, "~")):
                self.lets(test, plan(low, high))
            for high in ((1, 4), (0, True), (1, -10 ** 50)):
                self.no_plan("bounds", test, plan(low, high))
        for low in ((1, 6), (2, "")):
            self.no_plan("bounds", test, plan(low, None))
            self.no_plan("bounds", test, plan(low, (2, "x")))
        self.lets(("like", A, True), plan((0, True), (0, True)))
        self.lets(("like", A, True), plan((0, False), (0, True)))
        self.no_plan("bounds", ("like", A, True), plan((1, 1), (1, 1)))
        self.no_plan("bounds", ("like", A, True), plan(None, (0, False)))

    def test_bounds_of_below(self):
        test = ("below", A, 5)
        for high in (None, (1, 5), (1, 6), (2, "")):
            for low in (None, (0, True), (0, False)):
                self.lets(test, plan(low, high))
            for low in ((1, 4), (1, 5), (1, -10 ** 50), (2, "")):
                self.no_plan("bounds", test, plan(low, high))
        for high in ((1, 4), (0, True)):
            self.no_plan("bounds", test, plan(None, high))
        self.no_plan("bounds", ("below", A, True), plan((0, False), None))
        self.lets(("below", A, "x"), plan((1, 10 ** 50), (2, "x")))
        self.no_plan("bounds", ("below", A, "x"), plan((2, ""), None))

    def test_bounds_of_above(self):
        test = ("above", A, 5)
        for low in (None, (1, 5), (1, 4), (0, True)):
            for high in (None, (2, ""), (2, "~")):
                self.lets(test, plan(low, high))
            for high in ((1, 5), (1, 6), (1, 10 ** 50), (0, True)):
                self.no_plan("bounds", test, plan(low, high))
        for low in ((1, 6), (2, "")):
            self.no_plan("bounds", test, plan(low, None))
        self.no_plan("bounds", ("above", A, "x"), plan(None, (2, "~")))
        self.lets(("above", A, False), plan((0, False), (1, -10 ** 50)))
        self.no_plan("bounds", ("above", A, False), plan((0, False), (0, True)))

    def test_one_conjunct_lets_both_bounds(self):
        test = ("and", (("above", A, 2), ("below", A, 7)))
        self.lets(test, plan((1, 2), None))
        self.lets(test, plan(None, (1, 7)))
        self.no_plan("bounds", test, plan((1, 2), (1, 7)))
        self.lets(("and", (test, ("like", A, 5))), plan((1, 2), (1, 7)))

    def test_the_first_of_these(self):
        stands = of(BY[:3] + (("there", at("b")),))
        self.no_plan("shape", NONE_BUT, plan((1, True), None, "other"), stands)
        self.no_plan("name", NONE_BUT, plan((1, 9), None, "other"), stands)
        self.no_plan("test", ("like", A, 1), plan((1, 9), None), stands)
        self.no_plan("bounds", ("and", (("like", A, 1), ("there", at("b")))), plan((1, 9), None), stands)

    def test_many_are_asked_about_twice(self):
        source = random.Random(39)
        for _ in range(200):
            stands = plain_stands(a_history(source, 8, first=0))[8]
            test = some_test(source, stands)
            thing = a_plan(source, stands, test)
            self.assertEqual(refusal_of(lets_plan, stands, test, thing), refusal_of(lets_plan, stands, test, thing))
