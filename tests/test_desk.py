"""[91], [92]: the desk: each row and its answer, what is no row, and refusals as the STORE's."""

import random

from pathfolios.desk import Desk
from pathfolios.pathtexts import test_text as text_of_test
from pathfolios.replaying import replayed
from pathfolios.rowreadings import read_log
from pathfolios.rowtexts import row_line
from pathfolios.store import Store
from tests.checks import Checks, refusal_of
from tests.makers import a_test, shape_of
from tests.pasts import a_paper
from tests.plainstore import ASKERS, PlainStore, a_row, deed_of
from tests.test_rowtexts import LINES

# Rows, one behind the other, and their answers.
TALK = (
    ("store 3", "ok"),
    ("count", "0"),
    ("log", "store 3"),
    ("houses", "0.0.0 0.0.0 0.0.0"),
    ("floor", "0"),
    ("mark ann", "0"),
    ("branches", "-"),
    ("ask 0 and()", "-"),
    ("ask 2 and() 0", "-"),
    ("stand 0", "done"),
    ("write ann 0 put x {a:1} 0", "1"),
    ("write ann 0 put y {a:[yes,\"x\"],b:{}} 0", "2"),
    ("write bo 0 index by a/* no -", "3"),
    ("turn bo 0 x >add(a,4)", "4"),
    ("send 0 1", "done"),
    ("settle ann 1", "done"),
    ("mark ann", "2"),
    ("mark bo", "0"),
    ("read bo 1 x", "done"),
    ("mark bo", "4"),
    ("latest cy 0 zz", "done"),
    ("mark cy", "4"),
    ("houses", "1.4.4+ 1.4.4 1.0.0"),
    ("ask 1 and()", 'x {a:5} / y {a:[yes,"x"],b:{}}'),
    ("ask 1 and() 1", "x {a:1}"),
    ("ask 1 there(b)", 'y {a:[yes,"x"],b:{}}'),
    ("ask 1 like(a,7)", "-"),
    ("ask 2 and()", "-"),
    ("rows 0 by", "2"),
    ("part 0 2", "yes"),
    ("part 2 0", "no"),
    ("meet 0 2", "yes"),
    ("meet 0 2", "no"),
    ("fall 2", "ok"),
    ("rise 2", "ok"),
    ("send 0 2", "done"),
    ("forget 2", "ok"),
    ("floor", "2"),
    ("branch near 0", "ok"),
    ("branches", "near"),
    ("branch far 1", "ok"),
    ("branches", "far near"),
    ("on far put z {} 0", "ok"),
    ("on far gone x", "ok"),
    ("bring ann far 0", "done"),
    ("branches", "near"),
    ("count", "22"),
    ("undo", "bring ann far 0"),
    ("undo", "on far gone x"),
    ("count", "20"),
    ("branches", "far near"),
    ("part 0 1", "yes"),
    ("part 0 2", "yes"),
    ("stand 1", "done"),
    ("meet 0 1", "yes"),
    ("send 0 1", "ok"),
    ("undo", "send 0 1"),
    ("houses", "1.4.4+ 2.4.4+ 2.4.4"),
)


def answer(desk, asking):
    """An answer, or what refused it."""
    try:
        return desk.say(asking)
    except (ValueError, LookupError) as error:
        return type(error).__name__, tuple(vars(error).values())


class Talk(Checks):
    def says(self, desk, asking, told):
        self.told(told, lambda text: desk.say(text), asking)

    def no_row(self, desk, asking):
        """A text is no row, and turns nothing."""
        ahead = None if desk.store is None else str(desk.store)
        self.refused("NoRow", (asking,), lambda text: desk.say(text), asking)
        self.assertEqual(None if desk.store is None else str(desk.store), ahead)

    def test_each_row(self):
        desk = Desk()
        for asking, told in TALK:
            self.says(desk, asking, told)

    def test_log(self):
        desk = Desk()
        deeds = []
        for asking, _ in TALK[:30]:
            desk.say(asking)
            if asking.split(" ")[0] in ("store", "stand", "write", "turn", "send", "settle", "read", "latest", "part"):
                deeds.append(asking)
        self.says(desk, "log", " / ".join(deeds))
        self.says(desk, "count", str(len(deeds) - 1))

    def test_ahead_of_the_first_store(self):
        desk = Desk()
        for asking in ("count", "log", "undo", "houses", "floor", "mark ann", "branches", "ask 0 and()", "rows 0 by",
                       "stand 0", "stand 9", "", "store", "store 2", "store 6", "store 3 ", " store 3", "store x"):
            self.no_row(desk, asking)
            self.assertIsNone(desk.store)
        for many in (3, 4, 5):
            desk = Desk()
            self.says(desk, f"store {many}", "ok")
            self.says(desk, "houses", " ".join(["0.0.0"] * many))

    def test_a_second_store(self):
        desk = Desk()
        for asking, _ in TALK:
            desk.say(asking)
        self.says(desk, "store 5", "ok")
        self.says(desk, "log", "store 5")
        self.says(desk, "count", "0")
        self.says(desk, "branches", "-")
        self.refused("NoStep", (0,), lambda: desk.say("undo"))
        self.no_row(desk, "store 6")
        self.says(desk, "log", "store 5")

    def test_no_rows(self):
        desk = Desk()
        desk.say("store 3")
        desk.say("stand 0")
        for asking in ("", " ", "count ", " count", "count 1", "Count", "counts", "log 3", "undo 1", "undo undo",
                       "houses 0", "floor 0", "mark", "mark Ann", "mark ann bo", "mark 0", "mark  ann", "mark abcdefghi",
                       "branches a", "ask", "ask 0", "ask and()", "ask 0 -", "ask 0 and", "ask 0 and() ", "ask  0 and()",
                       "ask 0 and() x", "ask 0 and() yes", "ask 0 and() {}", "ask 0 and() 1234567890", "rows yes by",
                       "ask yes and()", "rows {} by", "rows 1234567890 by", "mark {}", "ask 0 and() 1.0", "ask 0 and() -", "ask 0 and() 0 0", "ask x and()", "ask 0 there(A)",
                       "ask 00 and()", "ask 0 and() 01", "ask -0 and()", "ask 1234567890 and()", "rows", "rows 0",
                       "rows by", "rows x by", "rows 0 By", "rows 0 by 1", "rows 0 1", "rows by 0", "stand", "stand x",
                       "stand 0 0", "stand 1234567890", "write ann 0", "write ann 0 gone", "write ann 0 put x [] 0",
                       "on far", "gone x", "store 2", "store 6", "store", "store 3 3", "do 1", "stream_at 0 and()",
                       "history 0", "paper", "ask 0 >unset(a)", "turn ann 0 x and()", "stand 0 / stand 1", "-", "ok"):
            self.no_row(desk, asking)

    def test_no_row_ahead_of_all(self):
        desk = Desk()
        desk.say("store 3")
        # House 9 is strange, but these are none of the rows.
        for asking in ("stand 9 ", "ask 9 and", "rows 9 By", "write ann 9 gone", "mark 9"):
            self.no_row(desk, asking)
        for asking in ("stand 9", "ask 9 and()", "rows 9 by", "write ann 9 gone x"):
            self.refused("NoHouse", (9,), lambda text: desk.say(text), asking)

    def test_refusals_as_the_stores(self):
        desk = Desk()
        for asking, _ in TALK[:-3]:
            desk.say(asking)
        ahead = str(desk.store)
        for asking, name, fields in (("stand -1", "NoHouse", (-1,)), ("rise 0", "NoTurn", ("up",)),
                                     ("write ann 2 gone x", "NoTurn", ("leads",)), ("ask 3 and()", "NoHouse", (3,)),
                                     ("ask 0 and() 1", "NoMark", (1,)), ("ask 0 and() -7", "NoMark", (-7,)),
                                     ("rows 0 far", "NoName", ("far",)), ("rows 8 far", "NoHouse", (8,)),
                                     ("turn ann 0 far >unset(a)", "NoId", ("far",)),
                                     ("turn ann 0 x >unset(b)", "NoChange", ("none", 0)),
                                     ("turn ann 0 x or()>unset(a)", "NoChange", ("test", -1)),
                                     ("forget 1", "NoMark", (1,)), ("branch far 0", "NoTurn", ("there",)),
                                     ("on a gone x", "NoName", ("a",)), ("on far shape", "NoTurn", ("kind",)),
                                     ("write ann 0 put x {} 1", "NoMark", (1,)), ("bring ann a 9", "NoName", ("a",))):
            self.refused(name, fields, lambda text: desk.say(text), asking)
            self.assertEqual(str(desk.store), ahead)

    def test_rows_of_one_that_is_down(self):
        desk = Desk()
        desk.say("store 3")
        desk.say("fall 1")
        for asking in ("ask 1 and()", "ask 1 and() 9", "rows 1 by", "stand 1", "read ann 1 x", "settle ann 1"):
            self.refused("NoTurn", ("down",), lambda text: desk.say(text), asking)

    def test_each_line_of_a_deed_is_a_row(self):
        for deed, line in LINES:
            desk = Desk()
            self.no_row(desk, line)
            desk.say("store 5")
            store = Store(5)
            refusal = refusal_of(deed_of, store, deed)
            if refusal is None:
                desk.say(line)
                self.says(desk, "log", "store 5 / " + line)
                self.says(desk, "undo", line)
            else:
                self.refused(*refusal, lambda text: desk.say(text), line)

    def test_any_texts(self):
        source = random.Random(91)
        desk = Desk()
        for asking, _ in TALK:
            desk.say(asking)
        for _ in range(3000):
            asking, _ = source.choice(TALK)
            place = source.randrange(len(asking) + 1)
            asking = asking[:place] + source.choice(" ab01-{}[]()/>,;*#=\"~Z") + asking[place + source.randrange(2):]
            told = answer(desk, asking)
            self.assertIn(type(told), (str, tuple))
            if isinstance(told, tuple) and told[0] == "NoRow":
                self.assertEqual(told[1], (asking,))

    def test_desks_are_apart(self):
        one, other = Desk(), Desk()
        one.say("store 3")
        self.no_row(other, "count")
        other.say("store 4")
        one.say("stand 0")
        self.says(other, "count", "0")


class OverRows(Checks):
    def test_behind_each_row_a_desk_and_a_store_of_its_log_tell_the_same(self):
        source = random.Random(92)
        for number in range(30):
            many = 3 + number % 3
            desk, store, plain = Desk(), Store(many), PlainStore(many)
            desk.say(f"store {many}")
            for _ in range(40):
                row = a_row(source, plain)
                refusal = refusal_of(deed_of, store, row)
                if refusal is None:
                    plain.do(row)
                    desk.say(row_line(row))
                    if source.randrange(12) == 0:
                        self.assertEqual(desk.say("undo"), row_line(store.undo()))
                        desk.say(row_line(row))
                        deed_of(store, row)
                else:
                    self.refused(*refusal, lambda line: desk.say(line), row_line(row))
                self.tells_the_same(source, desk, store, many)

    def tells_the_same(self, source, desk, store, many):
        other = Desk()
        lines = desk.say("log").split(" / ")
        self.assertEqual(desk.say("log"), str(store))
        if source.randrange(8) == 0:
            again = replayed(read_log(lines))
            self.assertTrue(again == store)
            for line in lines:
                other.say(line)
        else:
            other = desk
        test = a_test(source, a_paper(source), 1)
        house, mark = source.randrange(-1, many + 1), source.randrange(-1, 9)
        ask = f"ask {house} {text_of_test(test)}"
        for asking in ["count", "houses", "floor", "branches", ask, f"{ask} {mark}", f"rows {house} by"] + [
                "mark " + asker for asker in ASKERS]:
            self.assertEqual(answer(other, asking), answer(desk, asking), asking)
        self.assertEqual(desk.say("count"), str(len(store)))
        self.assertEqual(desk.say("houses"), store.houses_text())
        self.assertEqual(desk.say("branches"), " ".join(store.branches()) if store.branches() else "-")
        for call, asking in ((lambda: store.ask(house, test), ask), (lambda: store.ask(house, test, mark=mark),
                                                                    f"{ask} {mark}")):
            refusal = refusal_of(call)
            told = answer(desk, asking)
            if refusal is not None:
                self.assertEqual(shape_of(told), shape_of(refusal))
            else:
                self.assertEqual([] if told == "-" else [part.split(" ")[0] for part in told.split(" / ")],
                                 [holder for holder, _ in call()])
