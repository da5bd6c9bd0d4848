"""[84], [85], [86]: branches of a STORE, what is written on them, and what they bring."""

from tests.checks import at, row, tree
from tests.stores import BY, X, Y, StoreCase, behind, led, put

FIELDS = put("x", a=1, b=tree(c=1, d=1))
N = ("index", "n", at("k"), True, None)


def stands_of(*entries, indexes=(), shapes=()):
    return (tuple(sorted([entry[1:] for entry in entries])), indexes, shapes)


def grown(*entries, on=(), sent=(1, 2)):
    """A STORE with a BRANCH of what ENTRIES lead to, and ENTRIES on it."""
    store = led(*entries, sent=sent)
    store.branch("far", 1)
    for entry in on:
        store.write_on("far", entry)
    return store


class Branch(StoreCase):
    def test_told(self):
        store = led(X, BY)
        self.deed(store, None, "branch", "far", 0)
        self.tells(("far",), store, "branches")
        self.tells(stands_of(X, indexes=(BY[1:],)), store, "branch_stands", "far")
        self.deed(store, None, "branch", "a", 2)
        self.deed(store, None, "branch", "near", 1)
        self.tells(("a", "far", "near"), store, "branches")

    def test_at_the_last_that_is_done(self):
        store = led(X, sent=(1,))
        store.write("ann", 0, Y)
        for name, house, told in (("a", 0, stands_of(X)), ("b", 1, stands_of(X)), ("c", 2, stands_of())):
            self.deed(store, None, "branch", name, house)
            self.tells(told, store, "branch_stands", name)
        store.send(0, 1)
        self.tells(stands_of(X), store, "branch_stands", "b")

    def test_behind_the_floor(self):
        store = led(X, Y)
        store.forget(2)
        self.deed(store, None, "branch", "far", 0)
        self.tells(stands_of(X, Y), store, "branch_stands", "far")

    def test_each_refusal(self):
        store = led(X)
        store.branch("far", 0)
        self.no_turn(store, "there", "branch", "far", 0)
        self.no_turn(store, "there", "branch", "far", 1)
        self.no_house(store, "branch", "far", None)
        self.no_house(store, "branch", "near", None)
        store.fall(1)
        self.no_turn(store, "down", "branch", "far", 1)
        self.no_turn(store, "down", "branch", "near", 1)

    def test_no_name(self):
        store = grown(X)
        for name in ("a", "fa", "farr", "zzzzzzzz"):
            self.no_telling("NoName", (name,), store, "branch_stands", name)


class WriteOn(StoreCase):
    def test_told(self):
        store = grown(X, BY)
        self.deed(store, None, "on", "far", put("y", a=2))
        self.tells(stands_of(X, Y, indexes=(BY[1:],)), store, "branch_stands", "far")
        self.deed(store, None, "on", "far", ("gone", "x"))
        self.tells(stands_of(Y, indexes=(BY[1:],)), store, "branch_stands", "far")
        self.tells((0, ((), (), ()), (X, BY)), store, "history_of", 0)

    def test_branches_are_apart(self):
        store = grown(X)
        store.branch("near", 1)
        store.write_on("far", ("gone", "x"))
        self.tells(stands_of(), store, "branch_stands", "far")
        self.tells(stands_of(X), store, "branch_stands", "near")

    def test_each_refusal(self):
        store = grown(X, BY, ("shape", (("cut", "k"),)))
        for entry in (X, BY, ("gone", "zz"), ("bare", "zz"), ("shape", ())):
            self.no_deed(store, "NoName", ("near",), "on", "near", entry)
        for entry in (BY, ("bare", "by"), ("bare", "zz"), ("shape", ()), ("shape", (("out", "a", "b"),))):
            self.no_turn(store, "kind", "on", "far", entry)
        for refusal, entry in ((("NoMark", (2,)), put("x", 2)), (("NoId", ("y",)), ("gone", "y")),
                               (("NoKey", ("by", "y")), put("y", a=1))):
            self.no_deed(store, *refusal, "on", "far", entry)
        store = led(("shape", (("move", "a", "b"),)))
        store.branch("far", 0)
        self.no_deed(store, "NoLead", ("x", 0), "on", "far", put("x", 0, a=1, b=2))


class Bring(StoreCase):
    def test_what_one_side_alone_turned(self):
        store = grown(FIELDS, on=(put("x", a=5, b=tree(c=1, d=1)), put("new", a=0)))
        store.write("ann", 0, put("x", a=1, b=tree(c=1, d=7)))
        self.deed(store, ((3, 4), (), ()), "bring", "bo", "far", 0)
        self.tells(((3, 1, put("new", a=0)), (4, 1, put("x", a=5, b=tree(c=1, d=7)))), store, "writes_of", "bo")
        self.tells((), store, "branches")
        store.send(0, 1)
        self.tells((("new", tree(a=0)), ("x", tree(a=5, b=tree(c=1, d=7)))), store, "ask", 0, ("and", ()))

    def test_what_clashes_stays_ours(self):
        store = grown(FIELDS, Y, on=(put("x", a=2, b=tree(c=2, d=2)), ("gone", "y")))
        store.write("ann", 0, put("x", a=3, b=tree(c=3, d=1)))
        store.write("ann", 0, put("y", a=4))
        told = ((5,), (("x", ("a",)), ("x", ("b", "c")), ("y", ())), (("x", tree(a=2, b=tree(c=2, d=2))), ("y", None)))
        self.deed(store, told, "bring", "bo", "far", 0)
        self.tells(((5, 1, put("x", a=3, b=tree(c=3, d=2))),), store, "writes_of", "bo")

    def test_all_that_clashes_writes_nothing(self):
        store = grown(X, on=(put("x", a=2),))
        store.write("ann", 0, put("x", a=3))
        self.deed(store, ((), (("x", ("a",)),), (("x", tree(a=2)),)), "bring", "bo", "far", 0)
        self.tells((), store, "writes_of", "bo")
        self.tells((), store, "branches")

    def test_what_both_turned_alike(self):
        store = grown(X, on=(put("x", a=2), put("y", a=5)))
        store.write("ann", 0, put("y", a=5))
        store.write("ann", 0, put("x", a=2))
        self.deed(store, ((), (), ()), "bring", "bo", "far", 0)
        store = grown(X, Y, on=(("gone", "x"),))
        store.write("ann", 0, ("gone", "x"))
        self.deed(store, ((), (), ()), "bring", "bo", "far", 0)

    def test_a_truth_beside_a_number_is_turned(self):
        store = grown(X, on=(put("x", a=True),))
        self.deed(store, ((2,), (), ()), "bring", "bo", "far", 0)
        self.tells(((2, 1, put("x", a=True)),), store, "writes_of", "bo")

    def test_ids_gone_on_one_side(self):
        store = grown(X, Y, put("z", a=3), on=(("gone", "y"),))
        store.write("ann", 0, ("gone", "x"))
        self.deed(store, ((5,), (), ()), "bring", "bo", "far", 0)
        self.tells(((5, 1, ("gone", "y")),), store, "writes_of", "bo")
        # Gone on ours, turned on theirs: it CLASHES and stays gone.
        store = grown(X, on=(put("x", a=2),))
        store.write("ann", 0, ("gone", "x"))
        self.deed(store, ((), (("x", ()),), (("x", tree(a=2)),)), "bring", "bo", "far", 0)

    def test_ids_rise(self):
        store = grown(put("m", a=0), on=(put("z", a=1), put("b", a=2), ("gone", "m"), put("n", a=row())))
        self.deed(store, ((2, 3, 4, 5), (), ()), "bring", "bo", "far", 0)
        self.tells(((2, 1, put("b", a=2)), (3, 1, ("gone", "m")), (4, 1, put("n", a=row())), (5, 1, put("z", a=1))),
                   store, "writes_of", "bo")

    def test_a_void_branch_brings_nothing(self):
        store = grown(X)
        self.deed(store, ((), (), ()), "bring", "bo", "far", 0)
        store = grown(X)
        store.write("ann", 0, put("x", a=7))
        store.write("ann", 0, Y)
        self.deed(store, ((), (), ()), "bring", "bo", "far", 0)
        # What was turned and turned back on it is void, too.
        store = grown(X, on=(put("x", a=2), put("y", a=0), ("gone", "y"), X))
        self.deed(store, ((), (), ()), "bring", "bo", "far", 0)

    def test_documents_of_elder_editions(self):
        moves = ("shape", (("move", "a", "b"),))
        store = grown(X, Y, moves, on=(put("x", 0, a=9), put("z", 1, b=0)))
        store.write("ann", 0, put("y", 1, b=2))
        self.deed(store, ((5, 6), (), ()), "bring", "bo", "far", 0)
        self.tells(((5, 1, put("x", 1, b=9)), (6, 1, put("z", 1, b=0))), store, "writes_of", "bo")

    def test_of_another_term_and_house(self):
        store = grown(X, on=(Y,))
        store.stand(2)
        self.deed(store, ((2,), (), ()), "bring", "bo", "far", 2)
        self.tells(((2, 2, Y),), store, "writes_of", "bo")
        self.no_turn(store, "leads", "write", "bo", 0, Y)

    def test_one_of_the_same_name_again(self):
        store = grown(X, on=(Y,))
        store.bring("ann", "far", 0)
        self.no_deed(store, "NoName", ("far",), "bring", "ann", "far", 0)
        self.no_deed(store, "NoName", ("far",), "on", "far", Y)
        self.deed(store, None, "branch", "far", 0)
        self.tells(stands_of(X), store, "branch_stands", "far")
        self.deed(store, None, "on", "far", ("gone", "x"))
        # Y isn't on the base, but on ours.
        self.deed(store, ((3,), (), ()), "bring", "ann", "far", 0)
        self.tells(((1, 1, X), (2, 1, Y), (3, 1, ("gone", "x"))), store, "writes_of", "ann")

    def test_others_stay(self):
        store = grown(X, on=(Y,))
        store.branch("near", 0)
        store.bring("ann", "far", 0)
        self.tells(("near",), store, "branches")

    def test_a_strange_branch_ahead_of_all(self):
        store = grown(X)
        store.fall(2)
        for house in (0, 1, 2, -1, 3, 10 ** 59):
            self.no_deed(store, "NoName", ("near",), "bring", "ann", "near", house)
        for house in (-1, 3, 10 ** 59):
            self.no_deed(store, "NoHouse", (house,), "bring", "ann", "far", house)

    def test_each_refusal(self):
        store = grown(X)
        store.write("ann", 0, BY)
        self.no_turn(store, "shapes", "bring", "bo", "far", 0)
        self.no_turn(store, "leads", "bring", "bo", "far", 1)
        store.fall(1)
        self.no_turn(store, "down", "bring", "bo", "far", 1)

    def test_shapes(self):
        for entry, back in ((BY, ("bare", "by")), (("shape", ()), None), (("bare", "n"), N),
                            (N[:3] + (False, None), N), (N[:2] + (at("a"), True, None), N)):
            store = grown(X, N, on=(put("x", a=2),))
            store.write("ann", 0, entry)
            self.no_turn(store, "shapes", "bring", "bo", "far", 0)
            if back is not None:
                store.write("ann", 0, back)
                self.deed(store, ((5,), (), ()), "bring", "bo", "far", 0)

    def test_shapes_that_are_alike_but_for_a_truth(self):
        index, other = [("index", "by", at("a"), True, ("like", at("a"), value)) for value in (1, True)]
        store = grown(X, index, on=(Y,))
        store.write("ann", 0, other)
        self.no_turn(store, "shapes", "bring", "bo", "far", 0)

    def test_sides_that_arent_sound(self):
        store = grown(BY, X, Y, on=(put("x", a=8),))
        store.write("ann", 0, put("y", a=8))
        self.no_deed(store, "NoKey", ("by", "y"), "bring", "bo", "far", 0)
        # Theirs alone: what CLASHES is their own, what ours turned is on both.
        store = grown(BY, X, Y, on=(put("x", a=8),))
        store.write("ann", 0, put("x", a=5))
        store.write("ann", 0, put("y", a=8))
        self.no_deed(store, "NoKey", ("by", "y"), "bring", "bo", "far", 0)

    def test_refused_in_its_middle(self):
        # x and y change their KEYS; on the way, with x written alone, both would have one.
        turns = (put("y", a=0), put("x", a=2), put("y", a=1))
        store = grown(BY, X, Y, on=(put("b", k=1),) + turns)
        self.no_deed(store, "NoKey", ("by", "y"), "bring", "bo", "far", 0)
        self.tells(("far",), store, "branches")
        self.tells((), store, "writes_of", "bo")
        store.write("ann", 0, turns[0])
        store.write("ann", 0, turns[1])
        # Ours has turned y otherwise now; then alike.
        self.deed(store, ((6,), (("y", ("a",)),), (("y", tree(a=1)),)), "bring", "bo", "far", 0)
        self.tells(((6, 1, put("b", k=1)),), store, "writes_of", "bo")

    def test_what_goes_ahead_makes_way(self):
        store = grown(BY, X, on=(("gone", "x"), put("y", a=1)))
        self.deed(store, ((3, 4), (), ()), "bring", "bo", "far", 0)
        store = grown(BY, X, on=(("gone", "x"), put("a", a=1)))
        self.no_deed(store, "NoKey", ("by", "x"), "bring", "bo", "far", 0)

    def test_a_branch_of_what_isnt_done_by_all(self):
        # The base is what the house had DONE; ours is the whole LOG.
        store = led(X, sent=())
        store.branch("far", 0)
        self.tells(stands_of(), store, "branch_stands", "far")
        store.write_on("far", put("x", a=1))
        self.deed(store, ((), (), ()), "bring", "bo", "far", 0)
        store.branch("far", 0)
        store.write_on("far", put("x", a=9, b=9))
        self.deed(store, ((2,), (("x", ("a",)),), (("x", tree(a=9, b=9)),)), "bring", "bo", "far", 0)
        self.tells(((2, 1, put("x", a=1, b=9)),), store, "writes_of", "bo")

    def test_undone_it_is_there_again(self):
        store = grown(X, on=(Y,))
        store.bring("ann", "far", 0)
        self.told(("bring", "ann", "far", 0), store.undo)
        self.tells(("far",), store, "branches")
        self.tells(stands_of(X, Y), store, "branch_stands", "far")
        self.deed(store, ((2,), (), ()), "bring", "ann", "far", 0)
        self.assertEqual(len(behind()), 0)
