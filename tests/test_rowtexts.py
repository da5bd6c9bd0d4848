"""[88], [89], [90]: LOGS by kind, rows written as lines, and lines read as rows."""

import random

from pathfolios.logs import is_log
from pathfolios.pathtexts import change_text
from pathfolios.rowreadings import read_log, read_row
from pathfolios.rowtexts import log_lines, row_line
from tests.checks import Checks, at, refusal_of, row, tree
from tests.makers import NO_NUMBERS, NO_WORDS, ODD_THINGS, a_change, a_document, a_test, shape_of
from tests.notexts import NONE
from tests.pasts import an_entry, an_index, some_moves, some_stands

A = at("a")
DOC = tree(a=row(1, "x"), b=True)
CHANGE = (("like", A, 1), (("set", at("b"), 2), ("unset", at("c"))))
STORE = ("store", 3)

# Each row of a deed and its line.
LINES = (
    (("stand", 0), "stand 0"),
    (("fall", 12), "fall 12"),
    (("rise", -3), "rise -3"),
    (("send", 0, 2), "send 0 2"),
    (("part", 1, 1), "part 1 1"),
    (("meet", 2, 0), "meet 2 0"),
    (("write", "ann", 0, ("put", "x", DOC, 0)), 'write ann 0 put x {a:[1,"x"],b:yes} 0'),
    (("write", "ann", 0, ("put", "x", tree(), 17)), "write ann 0 put x {} 17"),
    (("write", "ann", 2, ("gone", "far")), "write ann 2 gone far"),
    (("write", "ann", 0, ("index", "by", at("a", "*", 0), True, None)), "write ann 0 index by a/*/#0 yes -"),
    (("write", "ann", 0, ("index", "by", A, False, ("and", (("there", A), ("like", A, "x"))))),
     'write ann 0 index by a no and(there(a),like(a,"x"))'),
    (("write", "bo", 1, ("bare", "by")), "write bo 1 bare by"),
    (("write", "bo", 1, ("shape", ())), "write bo 1 shape"),
    (("write", "bo", 1, ("shape", (("put", "a", row()), ("cut", "b")))), "write bo 1 shape put a [] cut b"),
    (("write", "bo", 1, ("shape", (("move", "put", "cut"), ("into", "a", "b"), ("out", "out", "out"), ("cut", "cut"),
                                   ("put", "put", -7), ("put", "b", False)))),
     "write bo 1 shape move put cut into a b out out out cut cut put put -7 put b no"),
    (("turn", "ann", 0, "x", CHANGE), "turn ann 0 x like(a,1)>set(b,2);unset(c)"),
    (("turn", "ann", 0, "x", (None, (("add", A, -1),))), "turn ann 0 x >add(a,-1)"),
    (("settle", "ann", 1), "settle ann 1"),
    (("read", "ann", 1, "x"), "read ann 1 x"),
    (("latest", "ann", 1, "x"), "latest ann 1 x"),
    (("forget", 12), "forget 12"),
    (("forget", -1), "forget -1"),
    (("branch", "far", 1), "branch far 1"),
    (("on", "far", ("gone", "x")), "on far gone x"),
    (("on", "far", ("put", "x", DOC, 1)), 'on far put x {a:[1,"x"],b:yes} 1'),
    (("on", "far", ("shape", (("cut", "a"),))), "on far shape cut a"),
    (("bring", "ann", "far", 2), "bring ann far 2"),
)
LOG = (STORE,) + tuple([deed for deed, _ in LINES])


class IsLog(Checks):
    def log(self, thing, so):
        self.told(so, is_log, thing)

    def test_logs(self):
        for many in (3, 4, 5):
            self.log((("store", many),), True)
            self.log((("store", many),) + LOG[1:], True)
        for deed, _ in LINES:
            self.log((STORE, deed), True)
            self.log((STORE, deed, deed), True)

    def test_how_many_houses(self):
        for many in (2, 6, 0, -3, 10 ** 59) + NO_NUMBERS:
            self.log((("store", many),), False)
            self.log((("store", many),) + LOG[1:], False)

    def test_no_first_row(self):
        for thing in ODD_THINGS + ((), STORE, (STORE[:1],), (STORE + (1,),), ([*STORE],), [STORE], (("Store", 3),), (3,),
                                   ((),), (("store", 3, 3),), (None,), "store 3", 3, True, None, LOG[1:], list(LOG),
                                   LOG[1:] + (STORE,), (("stand", 3),)):
            self.log(thing, False)

    def test_a_second_store(self):
        self.log((STORE, STORE), False)
        self.log(LOG + (STORE,), False)

    def test_rows_of_no_kind(self):
        for part in ODD_THINGS + (("undo",), ("count",), ("ask", 0, ("and", ())), ("mark", "a"), ("log",), ("rows", 0, "a"),
                                  ("houses",), ("floor",), ("branches",), ("wrote", "a", 0, ("gone", "x")), ("stand",),
                                  ("Stand", 0), "stand", (0, "stand"), (["stand"], 0), ("do", 1), (None, 0), ("", 0)):
            self.log((STORE, part), False)
            self.log((STORE, LOG[1], part), False)
            self.log((STORE, part, LOG[1]), False)

    def test_too_short_too_long_lists(self):
        for deed, _ in LINES:
            for many in range(len(deed)):
                self.log((STORE, deed[:many]), False)
            for more in (0, "a", None, tree()):
                self.log((STORE, deed + (more,)), False)
            self.log((STORE, list(deed)), False)

    def test_each_part(self):
        wrong = {int: NO_NUMBERS, str: NO_WORDS, tuple: ODD_THINGS + ("a", 1, ("gone",), ("gone", "X"), (None, ()), STORE)}
        for deed, _ in LINES:
            for number, part in enumerate(deed[1:], 1):
                for other in wrong[type(part)]:
                    self.log((STORE, deed[:number] + (other,) + deed[number + 1:]), False)

    def test_an_entry_is_no_change(self):
        self.log((STORE, ("write", "a", 0, CHANGE)), False)
        self.log((STORE, ("turn", "a", 0, "x", ("gone", "x"))), False)
        self.log((STORE, ("on", "a", CHANGE)), False)
        self.log((STORE, ("write", "a", 0, ("put", "x", DOC, -1))), False)
        self.log((STORE, ("write", "a", 0, ("put", "x", DOC, True))), False)
        self.log((STORE, ("write", "a", 0, ("index", "x", A, 1, None))), False)


class Lines(Checks):
    def test_each_row(self):
        for deed, line in LINES:
            self.told(line, row_line, deed)
            self.told(deed, read_row, line)

    def test_a_log(self):
        lines = ["store 3"] + [line for _, line in LINES]
        self.told(lines, log_lines, LOG)
        self.told(LOG, read_log, lines)
        for many in (3, 4, 5):
            self.told([f"store {many}"], log_lines, (("store", many),))
            self.told((("store", many),), read_log, [f"store {many}"])

    def test_what_is_told_is_the_askers_own(self):
        told = log_lines(LOG)
        told.append("x")
        self.assertEqual(len(log_lines(LOG)), len(LOG))
        lines = log_lines(LOG)
        log = read_log(lines)
        lines.clear()
        self.assertEqual(log, LOG)

    def test_many(self):
        source = random.Random(89)
        for _ in range(600):
            entry = an_entry(source, some_stands(source))
            if source.randrange(4) == 0:
                entry = source.choice((("shape", some_moves(source, 4)), ("index",) + an_index(source, "by")))
            change = a_change(source, a_document(source))
            for deed in (("write", "a", 1, entry), ("on", "far", entry), ("turn", "a", 0, "x", change)):
                line = row_line(deed)
                self.told(deed, read_row, line)
                self.told(line, row_line, read_row(line))
                self.told((STORE, deed, deed), read_log, log_lines((STORE, deed, deed)))
            self.assertEqual(row_line(("turn", "a", 0, "x", change)), "turn a 0 x " + change_text(change))


def words(line):
    return len(line.split(" "))


class NoRow(Checks):
    def no_text(self, line, word):
        """A text is refused as a row, and as a line of a LOG."""
        self.refused("NoText", (0, word), read_row, line)
        self.refused("NoText", (1, word), read_log, ["store 3", line])
        self.refused("NoText", (3, word), read_log, ["store 5", "stand 0", "fall -1", line, "no row"])

    def test_void(self):
        self.no_text("", 0)
        self.no_text(" ", 0)
        self.no_text("   ", 0)

    def test_no_word_of_a_row(self):
        for line in ("undo", "count", "ask 0 and()", "Stand 0", "stan 0", "wrote a 0 gone x", "3", "-", "{}", "and()", "log",
                     "standing 0", "store", "store 3", "store 3 3", "mark ann", "put x {} 0", "gone x", "no row"):
            self.no_text(line, 0)

    def test_a_word_out(self):
        for _, line in LINES:
            parts = line.split(" ")
            for many in range(1, len(parts)):
                if refusal_of(read_row, " ".join(parts[:many])) is not None:
                    self.no_text(" ".join(parts[:many]), many)
        self.no_text("stand", 1)
        self.no_text("write ann 0 shape put a", 6)
        self.no_text("write ann 0 shape cut a cut", 7)
        self.no_text("write ann 0 index by a yes", 7)
        self.no_text("turn ann 0 x", 4)

    def test_a_word_more(self):
        for deed, line in LINES:
            if "shape" not in line:
                for more in ("0", "a", "-", "{}", ""):
                    self.no_text(line + " " + more, words(line))
                    self.no_text(line + " " + more + " 7 x", words(line))
            else:
                for more in ("0", "a", "-", "{}", "", "shape"):
                    self.no_text(line + " " + more, words(line))

    def test_two_blanks(self):
        for _, line in LINES:
            parts = line.split(" ")
            for number in range(len(parts)):
                self.no_text(" ".join(parts[:number] + [""] + parts[number:]), number)
            self.no_text(line + " ", len(parts))
            self.no_text(" " + line, 0)

    def test_numbers(self):
        for wrong in ("1234567890", "-1234567890", "1000000000", "-1000000000", "-0", "01", "00", "+1", "1.0", "1_0", "a", "yes", "-", "--1", "", "0x1",
                      "{}", '"1"', "[1]", "1,", "1" * 4000, "\u0661"):
            for line, word in ((f"stand {wrong}", 1), (f"send {wrong} x", 1), (f"send 0 {wrong}", 2),
                               (f"meet {wrong} {wrong}", 1), (f"settle ann {wrong}", 2), (f"forget {wrong}", 1),
                               (f"write ann {wrong} gone x", 2), (f"write ann 0 put x {{}} {wrong}", 6),
                               (f"bring ann far {wrong}", 3), (f"branch far {wrong}", 2), (f"read ann {wrong} x", 2),
                               (f"turn ann {wrong} x >unset(a)", 2), (f"latest ann {wrong} x", 2)):
                self.no_text(line, word)
        for right in (999999999, -999999999, 123456789, 0, -1, 100000000):
            self.told(("stand", right), read_row, f"stand {right}")
            self.told(("send", right, right), read_row, f"send {right} {right}")
        self.told(("on", "a", ("put", "x", tree(), 999999999)), read_row, "on a put x {} 999999999")
        for edition in (-1, -999999999):
            self.no_text(f"write ann 0 put x {{}} {edition}", 6)
            self.no_text(f"on far put x {{}} {edition}", 5)

    def test_numbers_within_other_words_are_as_long_as_they_are(self):
        long = 10 ** 40
        self.told(("on", "a", ("put", "x", tree(a=long), 0)), read_row, f"on a put x {{a:{long}}} 0")
        self.told(("on", "a", ("shape", (("put", "x", -long),))), read_row, f"on a shape put x -{long}")
        self.told(("turn", "a", 0, "x", (None, (("add", A, long),))), read_row, f"turn a 0 x >add(a,{long})")

    def test_words(self):
        for wrong in ("A", "a1", "abcdefghi", "1", "-", "", "a-b", '"a"', "{}", "a/b", "a,"):
            for line, word in ((f"settle {wrong} 0", 1), (f"read ann 0 {wrong}", 3), (f"branch {wrong} 0", 1),
                               (f"bring {wrong} far 0", 1), (f"bring ann {wrong} 0", 2), (f"on {wrong} gone x", 1),
                               (f"on far gone {wrong}", 3), (f"write ann 0 bare {wrong}", 4),
                               (f"write ann 0 put {wrong} {{}} 0", 4), (f"write ann 0 index {wrong} a yes -", 4),
                               (f"turn ann 0 {wrong} >unset(a)", 3), (f"latest {wrong} 0 x", 1),
                               (f"write ann 0 shape cut {wrong}", 5), (f"write ann 0 shape put {wrong} 1", 5),
                               (f"write ann 0 shape move a {wrong}", 6), (f"write {wrong} 0 gone x", 1)):
                self.no_text(line, word)

    def test_words_of_entries_and_moves(self):
        for wrong in ("Put", "puts", "read", "cut", "move", "", "-", "0", "{}", "set", "write"):
            self.no_text(f"write ann 0 {wrong} x {{}} 0", 3)
            self.no_text(f"on far {wrong} x", 2)
        for wrong in ("gone", "shape", "Put", "index", "", "-", "0", "{}", "set", "rename", "a"):
            self.no_text(f"write ann 0 shape {wrong} a b", 4)
            self.no_text(f"write ann 0 shape cut a {wrong} b", 6)

    def test_values_paths_tests_changes(self):
        for wrong in ("[]", "1", "yes", '"a"', "{a:1", "{b:1,a:1}", "{a:1}}", "x", "-", ""):
            self.no_text(f"write ann 0 put x {wrong} 0", 5)
        for kind, frame, word in (("value", "write ann 0 shape put a {} cut b", 6),
                                  ("path", "write ann 0 index by {} yes -", 5), ("test", "on far index by a yes {}", 6),
                                  ("change", "turn ann 0 x {}", 4)):
            for wrong in NONE[kind]:
                if " " not in wrong and wrong != "-":
                    self.no_text(frame.replace("{}", wrong), word)
        self.no_text("turn ann 0 x -", 4)
        self.no_text("write ann 0 index by - yes -", 5)
        self.no_text("write ann 0 shape put a - cut b", 6)

    def test_truths(self):
        for wrong in ("Yes", "true", "1", "-", "", "0", '"yes"', "yesno", "n", "[]"):
            self.no_text(f"write ann 0 index by a {wrong} -", 6)

    def test_the_first_word_that_cant_stand(self):
        self.no_text("write A x put X 1 a", 1)
        self.no_text("write a x put X 1 a", 2)
        self.no_text("write a 0 puts X 1 a", 3)
        self.no_text("write a 0 put X 1 a", 4)
        self.no_text("write a 0 put x 1 a", 5)
        self.no_text("write a 0 put x {} a", 6)
        self.no_text("write a 0 put x {} 0 a", 7)
        self.no_text("write a 0 put x {}", 6)


class NoLog(Checks):
    def no_log(self, row_number, word, *lines):
        self.refused("NoText", (row_number, word), read_log, list(lines))

    def test_no_lines(self):
        self.no_log(0, 0)

    def test_the_first_line(self):
        self.no_log(0, 0, "")
        self.no_log(0, 0, "stand 0")
        self.no_log(0, 0, "Store 3", "stand 0")
        self.no_log(0, 1, "store")
        self.no_log(0, 2, "store 3 ")
        self.no_log(0, 2, "store 3 3")
        self.no_log(0, 1, "store  3")
        self.no_log(0, 0, " store 3")
        for many in ("2", "6", "0", "-3", "03", "a", "-", "3.0", "33", "yes", "1234567890", ""):
            self.no_log(0, 1, "store " + many)
            self.no_log(0, 1, "store " + many + " x", "no row")

    def test_store_in_the_middle(self):
        self.no_log(1, 0, "store 3", "store 3")
        self.no_log(2, 0, "store 3", "stand 0", "store 4", "stand")
        self.no_log(0, 0, "stand 0", "store 3")

    def test_the_first_line_that_writes_none(self):
        self.no_log(1, 1, "store 3", "stand", "stand x", "")
        self.no_log(2, 1, "store 3", "stand 0", "stand x", "")
        self.no_log(3, 0, "store 3", "stand 0", "stand 1", "", "stand x")

    def test_nearly_right_lines(self):
        source = random.Random(90)
        signs = "abst 0123-{}[]:,\"/*#()>;yesno"
        seen = {"read": 0, "refused": 0}
        for _ in range(5000):
            _, line = source.choice(LINES)
            place = source.randrange(len(line) + 1)
            line = line[:place] + source.choice(("", source.choice(signs))) + line[place + source.randrange(2):]
            refusal = refusal_of(read_row, line)
            if refusal is None:
                self.told(line, row_line, read_row(line))
                self.told(True, is_log, (STORE, read_row(line)))
                seen["read"] += 1
            else:
                self.assertEqual(refusal[0], "NoText")
                self.can_be_mended(line, refusal[1][1])
                seen["refused"] += 1
        self.assertGreater(min(seen.values()), 1000, seen)

    def can_be_mended(self, line, word):
        """The words ahead of that told can stand: they begin some row; that word can't stand behind them."""
        parts = line.split(" ")
        self.assertLessEqual(word, len(parts))
        if word > 0:
            ahead = refusal_of(read_row, " ".join(parts[:word]))
            self.assertIn(shape_of(ahead), (shape_of(None), shape_of(("NoText", (0, word)))))
        if word < len(parts):
            self.assertEqual(refusal_of(read_row, " ".join(parts[:word + 1])), ("NoText", (0, word)))

    def test_tests_of_any_kind(self):
        source = random.Random(91)
        for _ in range(300):
            test = a_test(source, a_document(source))
            deed = ("on", "b", ("index", "x", A, False, test))
            self.told(deed, read_row, row_line(deed))
