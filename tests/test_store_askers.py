"""[78], [79]: write, turn, settle, read and latest of a STORE, and MARKS, WRITES and TALES."""

from pathfolios.askers import are_asker_rows, judged
from pathfolios.store import Store
from tests.checks import at, tree
from tests.stores import BY, X, Y, StoreCase, adds, behind, led, put, sets


class Write(StoreCase):
    def test_told(self):
        store = led()
        self.deed(store, 1, "write", "ann", 0, X)
        self.deed(store, 2, "write", "bo", 0, Y)
        self.deed(store, 3, "write", "ann", 0, BY)
        self.tells(((1, 1, X), (3, 1, BY)), store, "writes_of", "ann")
        self.tells(((2, 1, Y),), store, "writes_of", "bo")
        self.tells((), store, "writes_of", "cy")
        self.tells((), store, "tale_of", "ann")
        self.tells(0, store, "mark_of", "ann")
        store.stand(0)
        self.deed(store, 4, "write", "ann", 0, X)
        self.tells(((1, 1, X), (3, 1, BY), (4, 2, X)), store, "writes_of", "ann")

    def test_each_refusal(self):
        store = led(X, BY, ("shape", ()))
        for entry in (X, ("gone", "z")):
            self.no_turn(store, "leads", "write", "ann", 1, entry)
            self.no_house(store, "write", "ann", None, entry)
        store.fall(1)
        self.no_turn(store, "down", "write", "ann", 1, ("gone", "z"))
        for refusal, entry in ((("NoMark", (2,)), put("x", 2)), (("NoId", ("z",)), ("gone", "z")),
                               (("NoName", ("n",)), ("bare", "n")), (("NoKey", ("by", "y")), put("y", a=1)),
                               (("NoLead", ("x", 0)), ("shape", (("out", "a", "b"),)))):
            self.no_deed(store, *refusal, "write", "ann", 0, entry)
            self.no_deed(store, *refusal, "write", "cy", 0, entry)


class Turn(StoreCase):
    def test_told(self):
        store = led(X, sent=())
        self.deed(store, 2, "turn", "bo", 0, "x", adds("a", 4))
        self.tells(((2, 1, put("x", a=5)),), store, "writes_of", "bo")
        self.deed(store, 3, "turn", "bo", 0, "x", sets("b", True, ("like", at("a"), 5)))
        self.tells(((2, 1, put("x", a=5)), (3, 1, put("x", a=5, b=True))), store, "writes_of", "bo")

    def test_led_to_the_newest(self):
        store = led(X, ("shape", (("move", "a", "b"),)), ("shape", (("put", "k", "z"),)))
        self.deed(store, 4, "turn", "bo", 0, "x", adds("b", 1))
        self.tells(((4, 1, put("x", 2, b=2, k="z")),), store, "writes_of", "bo")
        self.no_deed(store, "NoChange", ("none", 0), "turn", "bo", 0, "x", adds("a", 1))

    def test_what_isnt_done_yet_counts(self):
        store = led(X)
        store.write("ann", 0, Y)
        store.write("ann", 0, ("gone", "x"))
        self.deed(store, 4, "turn", "ann", 0, "y", adds("a", 1))
        self.no_deed(store, "NoId", ("x",), "turn", "ann", 0, "x", adds("a", 1))

    def test_each_refusal(self):
        store = led(X, Y, BY)
        change = adds("a", 1)
        self.no_house(store, "turn", "ann", None, "z", change)
        self.no_turn(store, "leads", "turn", "ann", 1, "z", change)
        self.no_deed(store, "NoId", ("z",), "turn", "ann", 0, "z", (("or", ()), change[1]))
        self.no_deed(store, "NoChange", ("test", -1), "turn", "ann", 0, "x", (("or", ()), change[1]))
        self.no_deed(store, "NoChange", ("test", -1), "turn", "ann", 0, "x", (("or", ()), adds("z", 1)[1]))
        self.no_deed(store, "NoChange", ("none", 1), "turn", "ann", 0, "x", (None, change[1] + adds("z", 1)[1]))
        self.no_deed(store, "NoKey", ("by", "y"), "turn", "ann", 0, "x", change)
        store.fall(1)
        self.no_turn(store, "down", "turn", "ann", 1, "z", change)
        self.deed(store, 4, "turn", "ann", 0, "x", adds("a", 9))


class Settle(StoreCase):
    def test_sure(self):
        store = led(X, Y, sent=())
        self.deed(store, ((), ()), "settle", "ann", 0)
        self.tells(((1, 1, X), (2, 1, Y)), store, "writes_of", "ann")
        store.send(0, 1)
        store.write("ann", 0, BY)
        self.deed(store, ((), ()), "settle", "ann", 2)
        self.deed(store, ((1, 2), ()), "settle", "ann", 1)
        self.tells(((3, 1, BY),), store, "writes_of", "ann")
        self.tells((("write", X), ("write", Y)), store, "tale_of", "ann")
        self.tells(2, store, "mark_of", "ann")
        self.deed(store, ((), ()), "settle", "ann", 1)
        self.tells(2, store, "mark_of", "ann")
        self.deed(store, ((), ()), "settle", "bo", 1)

    def test_lost(self):
        store = led(X, sent=())
        for row in (("fall", 0), ("stand", 1), ("write", "bo", 1, Y), ("send", 1, 2)):
            store.do_all([row])
        self.deed(store, ((), (1,)), "settle", "ann", 2)
        self.tells((), store, "writes_of", "ann")
        self.tells((), store, "tale_of", "ann")
        self.tells(0, store, "mark_of", "ann")
        self.deed(store, ((1,), ()), "settle", "bo", 1)

    def some_of_each(self, *more):
        """Number 1 is SURE, 2 and 3 of TERM 1 are rolled back, 2 and 3 of TERM 2 are done, 4 isn't done."""
        return behind(("stand", 0), ("write", "ann", 0, X), ("send", 0, 1), ("send", 0, 2), ("write", "ann", 0, Y),
                      ("write", "ann", 0, BY), ("fall", 0), ("stand", 1), ("write", "bo", 1, Y), ("write", "ann", 1, X),
                      ("send", 1, 2), ("write", "ann", 1, BY), *more)

    def test_some_of_each(self):
        store = self.some_of_each()
        self.tells(((1, 1, X), (2, 1, Y), (3, 1, BY), (3, 2, X), (4, 2, BY)), store, "writes_of", "ann")
        # At house 0, which is down, nothing is settled; at 1 number 3 is LOST as of TERM 1, SURE as of TERM 2.
        self.no_turn(store, "down", "settle", "ann", 0)
        self.deed(store, ((1, 3), (2, 3)), "settle", "ann", 1)
        self.tells(((4, 2, BY),), store, "writes_of", "ann")
        self.tells((("write", X), ("write", X)), store, "tale_of", "ann")
        self.tells(3, store, "mark_of", "ann")
        self.deed(store, ((2,), ()), "settle", "bo", 2)

    def test_by_the_done_of_the_house(self):
        store = self.some_of_each(("rise", 0))
        # House 0 has 1 DONE alone, though its LOG has what is rolled back elsewhere.
        self.deed(store, ((1,), ()), "settle", "ann", 0)
        self.tells(((2, 1, Y), (3, 1, BY), (3, 2, X), (4, 2, BY)), store, "writes_of", "ann")
        self.deed(store, ((3,), (2, 3)), "settle", "ann", 2)
        self.tells((("write", X), ("write", X)), store, "tale_of", "ann")

    def test_the_very_same_entry_of_two_leaders_at_one_number(self):
        store = behind(("stand", 0), ("write", "ann", 0, X), ("fall", 0), ("stand", 1), ("write", "bo", 1, X),
                       ("send", 1, 2))
        self.deed(store, ((), (1,)), "settle", "ann", 1)
        self.deed(store, ((1,), ()), "settle", "bo", 1)
        store = behind(("stand", 0), ("write", "ann", 0, X), ("fall", 0), ("stand", 1), ("write", "ann", 1, X),
                       ("send", 1, 2))
        self.deed(store, ((1,), (1,)), "settle", "ann", 1)
        self.tells((("write", X),), store, "tale_of", "ann")

    def test_a_number_stands_once_in_lost(self):
        store = behind(("stand", 0), ("write", "ann", 0, X), ("fall", 0), ("stand", 1), ("write", "ann", 1, X),
                       ("fall", 1), ("stand", 2), ("write", "bo", 2, X), ("send", 2, 3), ("send", 2, 4), many=5)
        self.tells(((1, 1, X), (1, 2, X)), store, "writes_of", "ann")
        self.deed(store, ((), (1,)), "settle", "ann", 2)
        self.tells((), store, "writes_of", "ann")

    def test_below_the_mark_the_tale_has_no_more(self):
        store = led(X, Y, BY)
        store.read("ann", 0, "z")
        store.write("ann", 0, ("gone", "y"))
        store.send(0, 1)
        self.deed(store, ((1, 2, 3, 4), ()), "settle", "ann", 0)
        self.tells((("read", "z", None), ("write", ("gone", "y"))), store, "tale_of", "ann")
        self.tells(4, store, "mark_of", "ann")

    def test_the_mark_stays_where_all_are_below_it(self):
        store = led(X, Y)
        store.read("ann", 0, "x")
        self.deed(store, ((1, 2), ()), "settle", "ann", 0)
        self.tells((("read", "x", tree(a=1)),), store, "tale_of", "ann")
        self.tells(2, store, "mark_of", "ann")

    def test_as_they_rise(self):
        # 2 is written of TERM 1, then of TERM 3 ahead of 3: of those that are SURE the numbers rise.
        store = behind(("stand", 0), ("write", "ann", 0, X), ("send", 0, 1), ("send", 0, 2), ("write", "ann", 0, X),
                       ("write", "ann", 0, X), ("fall", 0), ("stand", 1), ("write", "ann", 1, Y), ("write", "ann", 1, BY),
                       ("send", 1, 2))
        self.deed(store, ((1, 2, 3), (2, 3)), "settle", "ann", 2)
        self.tells((("write", X), ("write", Y), ("write", BY)), store, "tale_of", "ann")

    def test_a_truth_beside_a_number(self):
        store = behind(("stand", 0), ("write", "ann", 0, put("x", a=True)), ("send", 0, 1))
        self.deed(store, ((1,), ()), "settle", "ann", 1)
        self.tells((("write", put("x", a=True)),), store, "tale_of", "ann")

    def test_refused(self):
        store = led(X)
        self.no_house(store, "settle", "ann", None)
        store.fall(0)
        self.no_turn(store, "down", "settle", "ann", 0)


class Read(StoreCase):
    def test_told(self):
        store = led(X, sent=())
        self.deed(store, (0, None), "read", "bo", 0, "x")
        store.send(0, 1)
        self.deed(store, (1, tree(a=1)), "read", "bo", 1, "x")
        self.deed(store, (1, None), "read", "bo", 0, "y")
        self.tells(1, store, "mark_of", "bo")
        self.tells((("read", "x", None), ("read", "x", tree(a=1)), ("read", "y", None)), store, "tale_of", "bo")
        self.tells(0, store, "mark_of", "ann")
        self.deed(store, (0, None), "read", "ann", 2, "x")
        self.tells((), store, "writes_of", "bo")

    def test_at_the_askers_own_mark(self):
        store = led(X, sent=(1,))
        self.deed(store, (1, None), "read", "ann", 1, "z")
        self.no_deed(store, "Behind", (0,), "read", "ann", 2, "x")
        self.deed(store, (0, None), "read", "bo", 2, "x")
        store.send(0, 2)
        self.deed(store, (1, tree(a=1)), "read", "ann", 2, "x")
        # What is settled moves the MARK, too.
        store.write("cy", 0, Y)
        store.send(0, 1)
        store.settle("cy", 1)
        self.no_deed(store, "Behind", (1,), "read", "cy", 2, "x")
        self.deed(store, (2, tree(a=2)), "read", "cy", 0, "y")

    def test_an_elder_edition_is_told_led_and_in_the_tale_as_it_stands(self):
        store = led(X, ("shape", (("move", "a", "b"),)))
        self.deed(store, (2, tree(b=1)), "read", "ann", 1, "x")
        self.tells((("read", "x", tree(a=1)),), store, "tale_of", "ann")
        self.deed(store, (2, tree(b=1)), "latest", "ann", 0, "x")
        self.tells((("read", "x", tree(a=1)),) * 2, store, "tale_of", "ann")
        self.assertTrue(are_asker_rows(store.tale_of("ann")))
        self.assertEqual(judged(store.history_of(0), store.tale_of("ann")), ("fits", (1, 1)))

    def test_what_is_done_alone_is_read(self):
        store = led(X)
        store.write("ann", 0, put("x", a=7))
        self.deed(store, (1, tree(a=1)), "read", "ann", 0, "x")

    def test_the_floor_turns_no_read(self):
        store = led(X, Y)
        store.forget(2)
        self.deed(store, (2, tree(a=1)), "read", "ann", 0, "x")

    def test_refused(self):
        store = led(X, sent=(1,))
        self.no_house(store, "read", "ann", None, "x")
        store.read("ann", 1, "x")
        self.no_deed(store, "Behind", (0,), "read", "ann", 2, "x")
        store.fall(2)
        self.no_turn(store, "down", "read", "ann", 2, "x")


class Latest(StoreCase):
    def test_told(self):
        store = led(X)
        self.deed(store, (1, tree(a=1)), "latest", "bo", 0, "x")
        self.tells(1, store, "mark_of", "bo")
        self.tells((("read", "x", tree(a=1)),), store, "tale_of", "bo")
        store.write("ann", 0, ("gone", "x"))
        self.deed(store, (1, None), "latest", "bo", 0, "y")
        store.send(0, 2)
        self.deed(store, (2, None), "latest", "bo", 0, "x")

    def test_neighbours_come_into_its_term(self):
        store = behind(("fall", 2), ("stand", 0), ("write", "ann", 0, X), ("send", 0, 1), ("rise", 2))
        self.tells("1.1.1+ 1.1.1 0.0.0", store, "houses_text")
        self.deed(store, (1, tree(a=1)), "latest", "ann", 0, "x")
        self.tells("1.1.1+ 1.1.1 1.0.0", store, "houses_text")

    def test_each_refusal(self):
        store = led(X, sent=())
        self.no_house(store, "latest", "ann", None, "x")
        self.no_turn(store, "leads", "latest", "ann", 1, "x")
        self.no_turn(store, "own", "latest", "ann", 0, "x")
        store.fall(1)
        self.no_turn(store, "down", "latest", "ann", 1, "x")
        store.part(0, 2)
        self.no_turn(store, "few", "latest", "ann", 0, "x")
        store.rise(1)
        store.stand(2)
        store.meet(0, 2)
        self.no_turn(store, "term", "latest", "ann", 0, "x")

    def test_behind(self):
        # No deeds lead to this ([69]): a MARK above all that is DONE is put there by hand.
        store = behind(("fall", 2), ("stand", 0), ("write", "ann", 0, X), ("send", 0, 1), ("rise", 2))
        store.askers["ann"] = (2, store.writes_of("ann"), ())
        self.no_deed(store, "Behind", (1,), "latest", "ann", 0, "x")
        self.tells("1.1.1+ 1.1.1 0.0.0", store, "houses_text")
        # What HOUSES refuse goes ahead of it.
        self.no_turn(store, "leads", "latest", "ann", 1, "x")
        store.part(0, 1)
        store.part(0, 2)
        self.no_turn(store, "few", "latest", "ann", 0, "x")
        self.no_deed(store, "Behind", (1,), "read", "ann", 0, "x")


class Askers(StoreCase):
    def test_each_has_its_own(self):
        store = led(X, asker="ann")
        store.write("bo", 0, Y)
        store.read("cy", 0, "x")
        for asker, mark, writes, tale in (("ann", 0, ((1, 1, X),), ()), ("bo", 0, ((2, 1, Y),), ()),
                                          ("cy", 1, (), (("read", "x", tree(a=1)),)), ("zed", 0, (), ())):
            self.tells(mark, store, "mark_of", asker)
            self.tells(writes, store, "writes_of", asker)
            self.tells(tale, store, "tale_of", asker)

    def test_asking_makes_no_asker(self):
        store = Store()
        store.mark_of("ann")
        store.writes_of("ann")
        self.assertTrue(store == Store())
