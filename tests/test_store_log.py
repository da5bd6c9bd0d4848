"""[87], [88]: LOGS of STORES, undone, done in one, REPLAYED."""

import copy

from pathfolios.logs import is_log
from pathfolios.replaying import replayed
from pathfolios.store import Store
from tests.checks import refusal_of, tree
from tests.makers import ODD_THINGS, shape_of
from tests.plainstore import deed_of
from tests.stores import ALL, X, Y, StoreCase, adds, all_told, behind, led, put

# Each deed once, and what it tells, one behind the other.
DEEDS = (
    (("stand", 0), (1, (0, 1, 2))),
    (("write", "ann", 0, X), 1),
    (("turn", "bo", 0, "x", adds("a", 1)), 2),
    (("send", 0, 1), ((), 2)),
    (("send", 0, 2), ((), 2)),
    (("settle", "ann", 1), ((1,), ())),
    (("read", "cy", 1, "x"), (2, tree(a=2))),
    (("latest", "cy", 0, "x"), (2, tree(a=2))),
    (("forget", 1), None),
    (("branch", "far", 2), None),
    (("on", "far", Y), None),
    (("bring", "bo", "far", 0), ((3,), (), ())),
    (("part", 1, 2), True),
    (("part", 1, 2), False),
    (("meet", 1, 2), True),
    (("fall", 2), None),
    (("rise", 2), None),
)
ROWS = tuple([deed for deed, _ in DEEDS])
REFUSED = (("rise", 0), "NoTurn", ("up",))


class Log(StoreCase):
    def test_each_row(self):
        store = Store()
        for number, (deed, told) in enumerate(DEEDS):
            self.deed(store, told, *deed)
            self.tells((("store", 3),) + ROWS[:number + 1], store, "log")
            self.assertEqual(len(store), number + 1)
            self.assertTrue(is_log(store.log()))

    def test_refused_ones_are_not_noted(self):
        store = behind(*ROWS)
        for deed in (REFUSED[0], ("stand", 9), ("write", "ann", 1, X), ("settle", "ann", -1), ("forget", 9),
                     ("branch", "far", 8), ("on", "far", X), ("bring", "ann", "far", 0), ("read", "ann", 3, "x"),
                     ("turn", "ann", 0, "zz", adds("a", 1)), ("latest", "ann", 1, "x"), ("send", 1, 1), ("meet", 0, 0)):
            self.assertIsNotNone(refusal_of(deed_of, store, deed), deed)
            self.tells((("store", 3),) + ROWS, store, "log")

    def test_asks_are_not_noted(self):
        store = behind(*ROWS)
        store.ask(0, ALL)
        self.refused("NoName", ("by",), lambda: store.rows_at(0, "by"))
        store.stream_at(0, ALL, since=1)
        store.history_of(1)
        store.branches()
        store.floor()
        self.assertEqual(len(store), len(ROWS))

    def test_str(self):
        self.assertEqual(str(Store(5)), "store 5")
        self.assertEqual(str(behind(*ROWS)), "store 3 / stand 0 / write ann 0 put x {a:1} 0 / turn bo 0 x >add(a,1) / "
                         "send 0 1 / send 0 2 / settle ann 1 / read cy 1 x / latest cy 0 x / forget 1 / branch far 2 / "
                         "on far put y {a:2} 0 / bring bo far 0 / part 1 2 / part 1 2 / meet 1 2 / fall 2 / rise 2")


class Equal(StoreCase):
    def equal(self, one, other, so):
        for left, right in ((one, other), (other, one)):
            self.assertIs(left == right, so)
            self.assertIs(left != right, not so)

    def test_like_ones(self):
        self.equal(Store(), Store(3), True)
        self.equal(behind(*ROWS), behind(*ROWS), True)
        store = behind(*ROWS)
        self.equal(store, store, True)

    def test_unlike_ones(self):
        self.equal(Store(3), Store(4), False)
        for many in range(len(ROWS)):
            self.equal(behind(*ROWS), behind(*ROWS[:many]), False)

    def test_like_states_of_unlike_logs(self):
        self.equal(behind(("part", 0, 1), ("meet", 0, 1)), Store(), False)
        self.equal(behind(("part", 0, 1)), behind(("part", 1, 0)), False)
        self.equal(behind(("forget", 0)), Store(), False)
        self.equal(behind(("settle", "ann", 0)), behind(("settle", "bo", 0)), False)

    def test_a_truth_beside_a_number(self):
        self.equal(led(put("x", a=1)), led(put("x", a=True)), False)
        self.equal(led(X, sent=()), led(X, sent=()), True)

    def test_behind_an_undo(self):
        store = behind(*ROWS)
        store.undo()
        self.equal(store, behind(*ROWS[:-1]), True)

    def test_other_things(self):
        for thing in ODD_THINGS + (Store().log(), "store 3", 0, (), True, ("store", 3)):
            self.equal(Store(), thing, False)


class Undo(StoreCase):
    def test_each_deed(self):
        store = behind(*ROWS)
        for many in range(len(ROWS), 0, -1):
            self.told(ROWS[many - 1], store.undo)
            self.assertEqual(all_told(store), all_told(behind(*ROWS[:many - 1])))
            again = copy.deepcopy(store)
            for deed, told in DEEDS[many - 1:]:
                self.deed(again, told, *deed)
            self.assertEqual(all_told(again), all_told(behind(*ROWS)))
        self.refused("NoStep", (0,), store.undo)
        self.assertEqual(all_told(store), all_told(Store()))

    def test_no_step(self):
        for many in (3, 4, 5):
            store = Store(many)
            self.refused("NoStep", (0,), store.undo)
            self.refused("NoTurn", ("up",), store.rise, 0)
            self.refused("NoStep", (0,), store.undo)

    def test_what_is_refused_is_no_deed(self):
        store = behind(("part", 0, 1))
        self.refused("NoTurn", ("up",), store.rise, 0)
        self.told(("part", 0, 1), store.undo)
        self.tells((("store", 3),), store, "log")

    def test_it_goes_on_alike(self):
        store = behind(*ROWS[:6])
        store.undo()
        store.undo()
        store.undo()
        self.tells("1.2.0+ 1.0.0 1.0.0", store, "houses_text")
        self.deed(store, ((), 2), "send", 0, 2)
        self.deed(store, ((1,), ()), "settle", "ann", 2)
        self.no_deed(store, "Behind", (0,), "read", "ann", 1, "x")

    def test_undone_deeds_are_no_past_of_later_ones(self):
        store = behind(*ROWS)
        for _ in range(9):
            store.undo()
        others = (("fall", 2), ("write", "cy", 0, Y), ("stand", 1), ("part", 0, 2))
        for deed in others:
            deed_of(store, deed)
        ahead = ROWS[:len(ROWS) - 9]
        for many in range(len(others), 0, -1):
            self.assertEqual(all_told(store), all_told(behind(*ahead, *others[:many])))
            self.told(others[many - 1], store.undo)
        self.assertEqual(all_told(store), all_told(behind(*ahead)))
        self.refused("NoTurn", ("up",), store.do_all, others[:3] + (("rise", 0),))
        store.do_all(others[1:])
        store.undo()
        self.assertEqual(all_told(store), all_told(behind(*ahead, *others[1:3])))

    def test_holds_are_there_again(self):
        store = led(X, sent=(1,), many=5)
        store.stand(1)
        store.undo()
        # 1 HOLDS it still: with 2 they are MOST.
        self.deed(store, ((), 1), "send", 0, 2)


class DoAll(StoreCase):
    def test_told(self):
        for rows in (ROWS, list(ROWS), ROWS[:1], (), []):
            store = Store()
            self.told(len(rows), store.do_all, rows)
            self.tells((("store", 3),) + tuple(rows), store, "log")
            self.assertEqual(all_told(store), all_told(behind(*rows)))
            self.tells(0, store, "walks")

    def test_refused(self):
        deed, name, fields = REFUSED
        for many in range(len(ROWS) + 1):
            rows = ROWS[:many] + (deed,) + ROWS[many:]
            for named in ({}, {"keep": False}):
                store = Store()
                self.refused(name, fields, store.do_all, rows, **named)
                self.assertEqual(all_told(store), all_told(Store()))
                self.refused("NoStep", (0,), store.undo)
            store = Store()
            self.refused(name, fields, store.do_all, list(rows), keep=True)
            self.assertEqual(all_told(store), all_told(behind(*ROWS[:many])))
            self.tells(0, store, "walks")

    def test_ahead_of_the_first_stays(self):
        store = behind(*ROWS[:5])
        ahead = all_told(store)
        self.refused("NoTurn", ("up",), store.do_all, ROWS[5:8] + (REFUSED[0],) + ROWS[8:])
        self.assertEqual(all_told(store), ahead)
        self.told(len(ROWS) - 5, store.do_all, ROWS[5:])
        self.assertEqual(all_told(store), all_told(behind(*ROWS)))

    def test_refusals_of_each_base(self):
        for deed, name, fields in ((("stand", 7), "NoHouse", (7,)), (("forget", 9), "NoMark", (9,)),
                                   (("on", "near", X), "NoName", ("near",)), (("rise", 1), "NoTurn", ("up",)),
                                   (("turn", "ann", 0, "zz", adds("a", 1)), "NoId", ("zz",)),
                                   (("turn", "ann", 0, "x", adds("b", 1)), "NoChange", ("none", 0)),
                                   (("write", "ann", 0, ("put", "x", tree(), 1)), "NoMark", (1,))):
            store = behind(*ROWS)
            ahead = all_told(store)
            self.refused(name, fields, store.do_all, (("part", 0, 1), deed, ("part", 0, 2)))
            self.assertEqual(all_told(store), ahead)
            self.refused(name, fields, store.do_all, (("part", 0, 1), deed, ("part", 0, 2)), keep=True)
            self.tells((("store", 3),) + ROWS + (("part", 0, 1),), store, "log")
            self.tells(0, store, "walks")

    def test_undo_behind_it_is_of_the_last_deed(self):
        store = Store()
        store.do_all(ROWS)
        self.told(ROWS[-1], store.undo)
        self.assertEqual(all_told(store), all_told(behind(*ROWS[:-1])))

    def test_by_names(self):
        store = Store()
        self.assertEqual(store.do_all(deeds=[("stand", 0)], keep=True), 1)
        self.assertRaises(TypeError, store.do_all, [], True)

    def test_what_is_handed_in_is_no_ones_but_the_askers(self):
        rows = [("stand", 0), ("write", "ann", 0, X)]
        store = Store()
        store.do_all(rows)
        rows.append(("fall", 0))
        self.tells((("store", 3), ("stand", 0), ("write", "ann", 0, X)), store, "log")


class Replayed(StoreCase):
    def test_told(self):
        for many in range(len(ROWS) + 1):
            log = (("store", 3),) + ROWS[:many]
            store = replayed(log)
            self.assertIs(type(store), Store)
            self.assertTrue(store == behind(*ROWS[:many]))
            self.assertEqual(all_told(store), all_told(behind(*ROWS[:many])))
            self.assertEqual(shape_of(store.log()), shape_of(log))
            for deed, told in DEEDS[many:]:
                self.deed(store, told, *deed)
        for many in (3, 4, 5):
            self.assertTrue(replayed((("store", many),)) == Store(many))

    def test_undone_it_goes_back_likewise(self):
        store = replayed((("store", 3),) + ROWS)
        self.told(ROWS[-1], store.undo)
        self.assertEqual(all_told(store), all_told(behind(*ROWS[:-1])))

    def test_a_row_that_is_refused(self):
        for deed, name, fields in ((("stand", 3), "NoHouse", (3,)), (("rise", 0), "NoTurn", ("up",)),
                                   (("bring", "ann", "far", 9), "NoName", ("far",)), (("forget", -1), "NoMark", (-1,))):
            self.refused(name, fields, replayed, (("store", 3), deed))
            self.refused(name, fields, replayed, (("store", 3), ("part", 0, 1), deed, ("fall", 1), ("fall", 1)))
        self.assertEqual(str(replayed((("store", 5), ("stand", 3)))), "store 5 / stand 3")

    def test_it_is_one_of_its_own(self):
        store = behind(*ROWS)
        other = replayed(store.log())
        other.undo()
        self.assertEqual(len(store), len(ROWS))
