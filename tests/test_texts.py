"""[21], [22], [23]: VALUES, PATHS, TESTS and CHANGES written as texts, and read."""

import copy
import random
import unittest

from pathfolios import pathreadings, pathtexts
from pathfolios.changes import is_change
from pathfolios.errors import NoText
from pathfolios.paths import is_path
from pathfolios.probes import is_test
from pathfolios.values import is_value
from tests.makers import a_change, a_document, a_path, a_test, a_value, shape_of
from tests.notexts import NONE

A = (("field", "a"),)
B = (("field", "b"),)
WRITERS = {"value": pathtexts.value_text, "path": pathtexts.path_text, "test": pathtexts.test_text,
           "change": pathtexts.change_text}
READERS = {"value": pathreadings.value_read, "path": pathreadings.path_read, "test": pathreadings.test_read,
           "change": pathreadings.change_read}
LOOKS = {"value": is_value, "path": is_path, "test": is_test, "change": is_change}

VALUES = (
    (0, "0"), (7, "7"), (-7, "-7"), (-10, "-10"), (10 ** 59, "1" + "0" * 59), (-(10 ** 59), "-1" + "0" * 59),
    (True, "yes"), (False, "no"), ("", '""'), ("a1", '"a1"'), ("yes", '"yes"'), ("007", '"007"'),
    ("x" * 16, '"' + "x" * 16 + '"'),
    (("row", ()), "[]"), (("row", (1,)), "[1]"), (("row", (("row", ()), ("tree", ()))), "[[],{}]"),
    (("row", (1, -2, "a1", True)), '[1,-2,"a1",yes]'),
    (("tree", ()), "{}"), (("tree", (("a", ("row", ())), ("b", ("tree", ())))), "{a:[],b:{}}"),
    (("tree", (("abcdefgh", False), ("no", ""), ("yes", True))), '{abcdefgh:no,no:"",yes:yes}'),
    (("tree", (("a", ("row", (("tree", (("b", 0),)), -1))),)), "{a:[{b:0},-1]}"),
)
PATHS = (
    (A, "a"), ((("field", "abcdefgh"),), "abcdefgh"), ((("at", 0),), "#0"), ((("at", 120),), "#120"),
    ((("each",),), "*"),
    ((("where", "k", "x"),), '[k="x"]'), ((("where", "k", -1),), "[k=-1]"), ((("where", "k", True),), "[k=yes]"),
    ((("where", "yes", False),), "[yes=no]"), ((("where", "k", ""),), '[k=""]'), ((("where", "k", 0),), "[k=0]"),
    ((("field", "yes"), ("field", "there")), "yes/there"),
    ((("field", "a"), ("at", 0), ("each",), ("where", "k", "x"), ("field", "b")), 'a/#0/*/[k="x"]/b'),
)
TESTS = (
    (("there", A), "there(a)"), (("like", A, 1), "like(a,1)"), (("like", A, ("row", (1, 2))), "like(a,[1,2])"),
    (("like", A, ("tree", (("a", True),))), "like(a,{a:yes})"), (("below", A, -1), "below(a,-1)"),
    (("above", A + (("each",),), "x"), 'above(a/*,"x")'), (("not", ("there", A)), "not(there(a))"),
    (("and", ()), "and()"), (("or", ()), "or()"), (("and", (("there", A),)), "and(there(a))"),
    (("or", (("there", A), ("and", ()), ("not", ("or", ())))), "or(there(a),and(),not(or()))"),
    (("there", (("field", "there"),)), "there(there)"), (("below", A, False), "below(a,no)"),
)
CHANGES = (
    ((("like", A, 1), (("set", B, 2), ("unset", (("field", "c"),)))), "like(a,1)>set(b,2);unset(c)"),
    ((None, (("add", (("field", "n"),), -1),)), ">add(n,-1)"),
    ((None, (("push", A, ("row", ())), ("pull", A, ("tree", ())))), ">push(a,[]);pull(a,{})"),
    ((("and", ()), (("rename", A + B, "c"),)), "and()>rename(a/b,c)"),
    ((("not", ("or", ())), (("add", (("each",),), 0), ("set", A, True))), "not(or())>add(*,0);set(a,yes)"),
    ((None, (("set", (("where", "k", 1), ("at", 2)), ""),)), '>set([k=1]/#2,"")'),
)
EXAMPLES = {"value": VALUES, "path": PATHS, "test": TESTS, "change": CHANGES}

# Signs from which texts are made that are nearly right.
SIGNS = ' ,:;/#*=>-+0123456789abkxyz"[]{}()A'
PARTS = ("there(a)", "like(a,1)", "set(b,2)", "unset(c)", "add(n,-1)", "rename(a,b)", "and(", "or()", "not(", "yes",
         "no", '"a1"', "{a:1}", "[1,2]", "[k=1]", "a/b", "#0", "*", ">", ";", ",", ")", "]", "}", "-1", "0")


def made(source, kind):
    document = a_document(source)
    if kind == "value":
        return a_value(source, 4)
    if kind == "path":
        return a_path(source, 5)
    return a_test(source, document, 3) if kind == "test" else a_change(source, document)


def turned(source, text):
    """A text with something put in, gone or other in it."""
    at = source.randrange(len(text) + 1)
    word = source.choice(("in", "out", "other", "twice", "swap"))
    if word == "in":
        return text[:at] + source.choice(SIGNS) + text[at:]
    if word == "out":
        return text[:at] + text[at + 1:]
    if word == "other":
        return text[:at] + source.choice(SIGNS) + text[at + 1:]
    if word == "twice":
        return text[:at] + text[at - 1:]
    return text[:at] + text[at + 1:at + 2] + text[at:at + 1] + text[at + 2:]


class Case(unittest.TestCase):
    def refused(self, text, kind):
        with self.assertRaises(NoText, msg=(text, kind)) as caught:
            READERS[kind](text)
        self.assertIs(caught.exception.row, text)
        self.assertEqual(caught.exception.word, kind)

    def read_or_refused(self, text, kind):
        """Whatever is read is written as the same text."""
        try:
            thing = READERS[kind](text)
        except NoText:
            self.refused(text, kind)
            return 0
        self.assertIs(LOOKS[kind](thing), True, text)
        self.assertEqual(WRITERS[kind](thing), text)
        return 1


class Written(Case):
    def test_examples(self):
        for kind, pairs in EXAMPLES.items():
            for thing, text in pairs:
                ahead = copy.deepcopy(thing)
                self.assertEqual(WRITERS[kind](thing), text)
                self.assertIs(type(WRITERS[kind](thing)), str)
                self.assertEqual(shape_of(thing), shape_of(ahead))

    def test_without_blanks(self):
        source = random.Random(21)
        for kind in WRITERS:
            for _ in range(200):
                self.assertNotIn(" ", WRITERS[kind](made(source, kind)))

    def test_unlike_ones_are_written_unlike(self):
        source = random.Random(23)
        for kind in WRITERS:
            shapes = {}
            for _ in range(1500):
                thing = made(source, kind)
                text = WRITERS[kind](thing)
                self.assertEqual(shapes.setdefault(text, shape_of(thing)), shape_of(thing))


class Read(Case):
    def test_examples(self):
        for kind, pairs in EXAMPLES.items():
            for thing, text in pairs:
                self.assertEqual(shape_of(READERS[kind](text)), shape_of(thing))

    def test_texts_that_are_none(self):
        for kind, texts in NONE.items():
            for text in texts:
                with self.subTest(kind=kind, text=text):
                    self.refused(text, kind)

    def test_something_behind_a_whole_one(self):
        for kind, pairs in EXAMPLES.items():
            for _, text in pairs:
                for more in (" ", ",", ")", "]", "}", '"', ";", ">", "A", text[:1] + text):
                    self.read_or_refused(text + more, kind)
                for more in (" ", "A", "]", "}"):
                    self.refused(text + more, kind)
                    self.refused(more + text, kind)

    def test_the_very_text(self):
        for kind in READERS:
            text = "".join(["?", kind])
            self.refused(text, kind)
            self.refused("", kind)

    def test_what_was_written(self):
        source = random.Random(22)
        for kind in READERS:
            for _ in range(300):
                thing = made(source, kind)
                self.assertEqual(shape_of(READERS[kind](WRITERS[kind](thing))), shape_of(thing))

    def test_texts_that_are_nearly_right(self):
        source = random.Random(24)
        for kind in READERS:
            many = 0
            for _ in range(4000):
                text = WRITERS[kind](made(source, kind))[:60]
                for _ in range(source.randrange(1, 3)):
                    text = turned(source, text)
                many += self.read_or_refused(text, kind)
            self.assertGreater(many, 20)

    def test_texts_of_parts(self):
        source = random.Random(25)
        for kind in READERS:
            for _ in range(3000):
                self.read_or_refused("".join(source.choices(PARTS, k=source.randrange(1, 6))), kind)

    def test_parts_of_texts(self):
        source = random.Random(26)
        for kind in READERS:
            for _ in range(40):
                text = WRITERS[kind](made(source, kind))
                for at in range(len(text)):
                    self.read_or_refused(text[:at], kind)
                    self.read_or_refused(text[at:], kind)

    def test_thirty_brackets_open_at_once(self):
        for depth in (1, 29, 30, 45):
            for text in ("[" * depth + "]" * depth, "{a:" * depth + "1" + "}" * depth,
                         "[{a:" * depth + "0" + "}]" * depth):
                self.assertEqual(self.read_or_refused(text, "value"), 1)
                self.refused(text[:-1], "value")
                self.refused(text + text[-1], "value")
            text = "not(" * depth + "and()" + ")" * depth
            self.assertEqual(self.read_or_refused(text, "test"), 1)
            self.refused(text[:-1], "test")
            self.assertEqual(self.read_or_refused("and(" * depth + ")" * depth, "test"), 1)
            self.refused("and(" * depth + ")" * (depth - 1), "test")

    def test_long_texts(self):
        self.assertEqual(pathreadings.value_read("1" * 60), int("1" * 60))
        self.assertEqual(pathreadings.value_read("[" + "1," * 1900 + "1]"), ("row", (1,) * 1901))
        self.refused("[" + "1," * 1900 + "]", "value")
        self.assertEqual(pathreadings.path_read("a/" * 1900 + "a"), (("field", "a"),) * 1901)


if __name__ == "__main__":
    unittest.main()
