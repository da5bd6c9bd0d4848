"""[81], [82], [83]: HISTORIES, asks, ROWS and STREAMS of a STORE, and what is FORGOTTEN."""

from tests.checks import at, tree
from tests.makers import ODD_THINGS
from tests.stores import ALL, BY, HAS, STRANGE_HOUSES, X, Y, StoreCase, behind, led, put

NOTHING = ((), (), ())
PAST = (X, BY, Y, ("shape", (("move", "a", "b"),)), put("z", 1, b=9), ("gone", "x"))
BLACK = ("above", at("a"), 1)


def past(floor=0, **more):
    store = led(*PAST, **more)
    store.forget(floor)
    return store


class History(StoreCase):
    def test_told(self):
        store = led(*PAST, sent=(1,))
        for house in (0, 1):
            self.tells((0, NOTHING, PAST), store, "history_of", house)
        self.tells((0, NOTHING, ()), store, "history_of", 2)
        store.write("ann", 0, put("zz", 1))
        self.tells((0, NOTHING, PAST), store, "history_of", 0)

    def test_forgotten_up_to_the_floor(self):
        store = past(3)
        stands = ((("x", tree(a=1), 0), ("y", tree(a=2), 0)), (BY[1:],), ())
        for house in range(3):
            self.tells((3, stands, PAST[3:]), store, "history_of", house)
        store.forget(6)
        last = ((("y", tree(a=2), 0), ("z", tree(b=9), 1)), (BY[1:],), (PAST[3][1],))
        self.tells((6, last, ()), store, "history_of", 0)

    def test_refused_ahead_of_all(self):
        store = past()
        store.fall(2)
        named = {"stream_at": {"since": 99}, "ask": {"mark": 99, "plan": 1}, "rows_at": {"mark": 99}}
        for word, given in (("history_of", ()), ("ask", (HAS,)), ("rows_at", ("none",)), ("stream_at", (HAS,))):
            for house in STRANGE_HOUSES:
                self.no_telling("NoHouse", (house,), store, word, house, *given, **named.get(word, {}))
            self.no_telling("NoTurn", ("down",), store, word, 2, *given, **named.get(word, {}))


class Ask(StoreCase):
    def test_at_the_last(self):
        store = past(2)
        pairs = (("y", tree(b=2)), ("z", tree(b=9)))
        self.tells(pairs, store, "ask", 0, ALL)
        self.tells(pairs, store, "ask", 0, ALL, mark=None, plan=None, order=None)
        self.tells((), store, "ask", 0, HAS)
        self.tells(pairs[1:], store, "ask", 1, ("like", at("b"), 9))

    def test_at_each_mark(self):
        for floor in (0, 3):
            store = past(floor)
            x, y = ("x", tree(a=1)), ("y", tree(a=2))
            for mark, told in enumerate(((), (x,), (x,), (x, y), (("x", tree(b=1)), ("y", tree(b=2))))):
                if mark >= floor:
                    self.tells(told, store, "ask", 2, ALL, mark=mark)
                else:
                    self.no_telling("NoMark", (mark,), store, "ask", 2, ALL, mark=mark)

    def test_no_mark(self):
        store = past(3)
        for mark in (2, 7, 0, -1, 10 ** 59, -10 ** 59):
            for plan in (None, ("all",), 1):
                self.no_telling("NoMark", (mark,), store, "ask", 0, ALL, mark=mark, plan=plan)
        for mark in (3, 6):
            store.ask(0, ALL, mark=mark)

    def test_by_the_done_of_the_house(self):
        store = led(X, sent=(1,))
        self.tells((), store, "ask", 2, ALL)
        self.no_telling("NoMark", (1,), store, "ask", 2, ALL, mark=1)
        self.tells((("x", tree(a=1)),), store, "ask", 1, ALL, mark=1)

    def test_order(self):
        store = led(put("x", a=3), put("y", a=1, b=2), put("z", b=1))
        x, y, z = ("x", tree(a=3)), ("y", tree(a=1, b=2)), ("z", tree(b=1))
        for plan in (None, ("all",)):
            for order, told in ((None, (x, y, z)), (at("a"), (y, x, z)), (at("b"), (z, y, x))):
                self.tells(told, store, "ask", 0, ALL, plan=plan, order=order)
            self.tells((y, x), store, "ask", 0, HAS, plan=plan, order=at("a"), mark=3)

    def test_a_plan_that_is_let(self):
        store = past()
        for plan in (("all",), ("index", "by", (1, 1), None), ("index", "by", None, None), ("index", "by", (0, True), None)):
            self.tells((("y", tree(a=2)),), store, "ask", 0, BLACK, mark=3, plan=plan)
        self.tells((("y", tree(a=2)),), store, "ask", 1, ("and", (HAS, BLACK)), mark=3, order=at("a"),
                   plan=("index", "by", (1, 1), None))

    def test_a_plan_that_isnt(self):
        store = past()
        for plan in ODD_THINGS + ("all", ["all"], (), 0, False, True, ("index", "by", None), BLACK):
            if plan is not None:
                self.no_telling("NoPaper", ("shape", -1), store, "ask", 0, BLACK, mark=3, plan=plan)
        self.no_telling("NoPaper", ("name", -1), store, "ask", 0, BLACK, mark=3, plan=("index", "n", None, None))
        # There is no INDEX yet at MARK 1.
        self.no_telling("NoPaper", ("name", -1), store, "ask", 0, BLACK, mark=1, plan=("index", "by", None, None))
        self.no_telling("NoPaper", ("bounds", -1), store, "ask", 0, BLACK, plan=("index", "by", (1, 2), None))
        self.no_telling("NoPaper", ("bounds", -1), store, "ask", 0, ALL, plan=("index", "by", None, None))
        store = led(X, BY[:4] + (HAS,))
        self.no_telling("NoPaper", ("test", -1), store, "ask", 0, BLACK, plan=("index", "by", None, None))

    def test_by_names(self):
        store = past()
        self.assertEqual(store.ask(test=BLACK, house=0, order=None, plan=("all",), mark=3), (("y", tree(a=2)),))
        self.assertRaises(TypeError, store.ask, 0, BLACK, 3)


class Rows(StoreCase):
    def test_told(self):
        store = past()
        self.tells((((1, 1), "x"), ((1, 2), "y")), store, "rows_at", 0, "by", mark=3)
        self.tells((((1, 1), "x"),), store, "rows_at", 2, "by", mark=2)
        self.tells((), store, "rows_at", 0, "by")
        self.tells((), store, "rows_at", 0, "by", mark=None)
        self.assertEqual(store.rows_at(name="by", house=0, mark=2), (((1, 1), "x"),))
        self.assertRaises(TypeError, store.rows_at, 0, "by", 2)

    def test_refused(self):
        store = past(2)
        for name in ("by", "n"):
            for mark in (1, 7, -1, 0):
                self.no_telling("NoMark", (mark,), store, "rows_at", 0, name, mark=mark)
        for name in ("n", "x", "b"):
            self.no_telling("NoName", (name,), store, "rows_at", 0, name)
            self.no_telling("NoName", (name,), store, "rows_at", 0, name, mark=2)
        self.no_telling("NoName", ("by",), past(0), "rows_at", 0, "by", mark=1)


class Stream(StoreCase):
    def test_told(self):
        store = past()
        events = (("in", 1, "x", tree(a=1)), ("in", 3, "y", tree(a=2)), ("on", 4, "x", tree(b=1)),
                  ("on", 4, "y", tree(b=2)), ("in", 5, "z", tree(b=9)), ("out", 6, "x"))
        self.tells(events, store, "stream_at", 0, ALL, since=0)
        self.tells(events, store, "stream_at", 1, ALL, since=0, upto=None, short=False)
        self.tells(events[1:4], store, "stream_at", 2, ALL, since=1, upto=4)
        self.tells((("in", 4, "y", tree(b=2)), events[4]), store, "stream_at", 0, ALL, since=0, short=True)
        store.forget(3)
        self.tells(events[2:], store, "stream_at", 0, ALL, since=3)
        self.assertEqual(store.stream_at(test=ALL, house=0, short=False, upto=5, since=4), events[4:5])
        self.assertRaises(TypeError, store.stream_at, 0, ALL, 3)
        self.assertRaises(TypeError, store.stream_at, 0, ALL)

    def test_no_marks(self):
        store = past(3)
        for short in (True, False):
            for since in (2, 7, -1):
                self.no_telling("NoMark", (since,), store, "stream_at", 0, ALL, since=since, upto=99, short=short)
            for since, upto in ((3, 2), (4, 3), (3, 7), (6, 5)):
                self.no_telling("NoMark", (upto,), store, "stream_at", 0, ALL, since=since, upto=upto, short=short)


class Forget(StoreCase):
    def test_told(self):
        store = led(*PAST)
        for mark in (0, 0, 2, 2, 5, 6, 6):
            self.deed(store, None, "forget", mark)
            self.tells(mark, store, "floor")
            if mark > 0:
                self.no_deed(store, "NoMark", (mark - 1,), "forget", mark - 1)
        for mark in (7, 5, 0, -1, 10 ** 59, -10 ** 59):
            self.no_deed(store, "NoMark", (mark,), "forget", mark)

    def test_the_least_done_of_all(self):
        store = led(*PAST[:2], sent=(1, 2))
        store.write("ann", 0, Y)
        store.send(0, 1)
        self.tells("1.3.3+ 1.3.3 1.2.2", store, "houses_text")
        self.no_deed(store, "NoMark", (3,), "forget", 3)
        self.deed(store, None, "forget", 2)

    def test_a_house_that_is_down_counts_too(self):
        store = led(X, sent=(1,))
        store.fall(2)
        self.no_deed(store, "NoMark", (1,), "forget", 1)
        store.rise(2)
        store.send(0, 2)
        store.fall(2)
        self.deed(store, None, "forget", 1)
        store.fall(0)
        store.fall(1)
        self.deed(store, None, "forget", 1)

    def test_undone(self):
        store = past(3)
        self.told(("forget", 3), store.undo)
        self.tells(0, store, "floor")
        self.tells((0, NOTHING, PAST), store, "history_of", 0)

    def test_of_a_store_of_none(self):
        store = behind()
        self.deed(store, None, "forget", 0)
        self.no_deed(store, "NoMark", (1,), "forget", 1)
        self.no_deed(store, "NoMark", (-1,), "forget", -1)
