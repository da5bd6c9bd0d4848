"""The interface: names, arguments, and the file in which each function and class is defined."""

import ast
import importlib
import inspect
import pathlib
import unittest

from pathfolios.desk import Desk
from pathfolios.houses import Houses
from pathfolios.keeping import Kept
from pathfolios.replaying import replayed
from pathfolios.store import Store

PACKAGE = pathlib.Path(__file__).resolve().parent.parent / "pathfolios"

FUNCTIONS = {
    "words": ("is_word(thing)", "is_number(thing)", "is_text(thing)"),
    "values": ("is_plain(thing)", "is_value(thing)", "is_document(thing)", "is_like(one, other)", "key_of(plain)"),
    "paths": ("is_step(thing)", "is_path(thing)"),
    "finding": ("found_in(value, path)", "value_at(value, place)"),
    "probes": ("is_test(thing)",),
    "meeting": ("meets(document, test)", "count_parts(test)"),
    "undoing": ("is_undoing(thing)", "undone(document, undoing)", "undoing_between(document, other)"),
    "changes": ("is_deed(thing)", "is_change(thing)"),
    "changing": ("changed(document, change, *, told=False)",),
    "pathtexts": ("value_text(value)", "path_text(path)", "test_text(test)", "change_text(change)"),
    "pathreadings": ("value_read(text)", "path_read(text)", "test_read(text)", "change_read(text)"),
    "shapes": ("is_move(thing)", "is_moves(thing)", "is_shapes(thing)", "moved(document, move)"),
    "leading": ("led(document, shapes, *, since, upto=None, holder='')", "view_of(stands)", "led_all(stands)"),
    "entries": ("is_index(thing)", "is_entry(thing)", "is_stands(thing)", "is_history(thing)"),
    "keys": ("keys_of(document, index)", "rows_of(stands, name)"),
    "standing": ("is_fit(stands)", "let_in(stands, entry)"),
    "histories": ("is_right(history)", "last_mark(history)", "stands_at(history, *, mark=None)",
                  "view_at(history, *, mark=None)", "history_on(history, entry)", "forgotten(history, mark)"),
    "indexchecker": ("lets_rows(stands, name, thing)",),
    "asks": ("asked_all(stands, test, *, order=None)",),
    "plans": ("plans_for(stands, test)", "plan_ids(stands, plan)", "asked_by(stands, test, plan, *, order=None)"),
    "planchecker": ("lets_plan(stands, test, thing)",),
    "folding": ("folded(rows, events)", "shortened(rows, events)"),
    "streams": ("meeting_at(history, test, *, mark=None)",
                "stream(history, test, *, since, upto=None, short=False)"),
    "streamchecker": ("is_event(thing)", "lets_stream(history, test, thing, *, since, upto=None)"),
    "joins": ("joined(base, ours, theirs)", "joined_rows(base, ours, theirs)", "joined_stands(base, ours, theirs)"),
    "joinchecker": ("lets_join(base, ours, theirs, thing)",),
    "housechecker": ("lets_houses(thing)",),
    "askers": ("are_asker_rows(thing)", "judged(history, rows)"),
    "judgechecker": ("lets_judged(history, rows, thing)",),
    "logs": ("is_log(thing)",),
    "replaying": ("replayed(log)",),
    "rowtexts": ("row_line(deed)", "log_lines(log)"),
    "rowreadings": ("read_row(text)", "read_log(lines)"),
}

CLASSES = {
    "errors": ("FolioError()", "LackError()", "NoPaper(word, at)", "NoChange(word, at)", "NoKey(name, holder)",
               "NoLead(holder, edition)", "NoTurn(word)", "Behind(mark)", "NoText(row, word)", "NoRow(row)",
               "NoId(holder)", "NoMark(mark)", "NoName(name)", "NoHouse(house)", "NoStep(number)"),
    "keeping": ("Kept(stands)",),
    "houses": ("Houses(many=3)",),
    "store": ("Store(many=3)",),
    "desk": ("Desk()",),
}

METHODS = {
    ("keeping", "Kept"): ("done(self, entry)", "stands(self)", "rows(self, name)", "__len__(self)", "__str__(self)",
                          "__eq__(self, other)", "__ne__(self, other)"),
    ("houses", "Houses"): ("is_up(self, house)", "does_lead(self, house)", "is_linked(self, house, other)",
                           "term_of(self, house)", "done_of(self, house)", "vote_of(self, house)",
                           "log_of(self, house)", "leaders(self)", "__len__(self)", "__str__(self)",
                           "__eq__(self, other)", "__ne__(self, other)", "stand(self, house)",
                           "write(self, house, entry)", "send(self, house, other)", "fall(self, house)",
                           "rise(self, house)", "part(self, house, other)", "meet(self, house, other)",
                           "read(self, house, *, mark=0)", "latest(self, house)", "paper(self)"),
    ("store", "Store"): ("paper(self)", "houses_text(self)", "leaders(self)", "stand(self, house)",
                         "send(self, house, other)", "fall(self, house)", "rise(self, house)",
                         "part(self, house, other)", "meet(self, house, other)", "write(self, asker, house, entry)",
                         "turn(self, asker, house, holder, change)", "settle(self, asker, house)",
                         "read(self, asker, house, holder)", "latest(self, asker, house, holder)",
                         "mark_of(self, asker)", "writes_of(self, asker)", "tale_of(self, asker)",
                         "history_of(self, house)", "ask(self, house, test, *, mark=None, plan=None, order=None)",
                         "rows_at(self, house, name, *, mark=None)",
                         "stream_at(self, house, test, *, since, upto=None, short=False)", "forget(self, mark)",
                         "floor(self)", "branch(self, name, house)", "write_on(self, name, entry)",
                         "bring(self, asker, name, house)", "branches(self)", "branch_stands(self, name)",
                         "log(self)", "__len__(self)", "__str__(self)", "__eq__(self, other)", "__ne__(self, other)",
                         "undo(self)", "do_all(self, deeds, *, keep=False)", "walks(self)"),
    ("desk", "Desk"): ("say(self, asking)",),
}

DOCUMENT = ("tree", (("a", 1),))
OTHER = ("tree", (("a", 2),))
PATH = (("field", "a"),)
BACK = ("back", ("a",), 2)
DEED = ("set", PATH, 2)
INDEX = ("by", PATH, True, None)
STANDS = ((("x", DOCUMENT, 0),), (INDEX,), ((),))
ENTRY = ("gone", "x")
BARE = ((), (INDEX,), ((),))
HISTORY = (3, STANDS, (ENTRY,))

# Calls by name: the arguments, and what is told.
CALLS_BY_NAME = (
    ("words", "is_word", {"thing": "a"}, True),
    ("words", "is_number", {"thing": 1}, True),
    ("words", "is_text", {"thing": ""}, True),
    ("values", "is_plain", {"thing": 1}, True),
    ("values", "is_value", {"thing": 1}, True),
    ("values", "is_document", {"thing": DOCUMENT}, True),
    ("values", "is_like", {"other": 1, "one": 2}, False),
    ("values", "key_of", {"plain": 1}, (1, 1)),
    ("paths", "is_step", {"thing": ("each",)}, True),
    ("paths", "is_path", {"thing": (("each",),)}, True),
    ("finding", "found_in", {"path": PATH, "value": DOCUMENT}, ((("a",), 1),)),
    ("finding", "value_at", {"place": ("a",), "value": DOCUMENT}, 1),
    ("probes", "is_test", {"thing": ("there", PATH)}, True),
    ("meeting", "meets", {"test": ("like", PATH, 1), "document": DOCUMENT}, True),
    ("meeting", "count_parts", {"test": ("and", ())}, 1),
    ("undoing", "is_undoing", {"thing": (BACK,)}, True),
    ("undoing", "undone", {"undoing": (BACK,), "document": DOCUMENT}, OTHER),
    ("undoing", "undoing_between", {"other": OTHER, "document": DOCUMENT}, (BACK,)),
    ("changes", "is_deed", {"thing": DEED}, True),
    ("changes", "is_change", {"thing": (None, (DEED,))}, True),
    ("changing", "changed", {"told": False, "change": (None, (DEED,)), "document": DOCUMENT}, OTHER),
    ("pathtexts", "value_text", {"value": DOCUMENT}, "{a:1}"),
    ("pathtexts", "path_text", {"path": PATH}, "a"),
    ("pathtexts", "test_text", {"test": ("there", PATH)}, "there(a)"),
    ("pathtexts", "change_text", {"change": (None, (DEED,))}, ">set(a,2)"),
    ("pathreadings", "value_read", {"text": "{a:1}"}, DOCUMENT),
    ("pathreadings", "path_read", {"text": "a"}, PATH),
    ("pathreadings", "test_read", {"text": "there(a)"}, ("there", PATH)),
    ("pathreadings", "change_read", {"text": ">set(a,2)"}, (None, (DEED,))),
    ("shapes", "is_move", {"thing": ("cut", "a")}, True),
    ("shapes", "is_moves", {"thing": (("cut", "a"),)}, True),
    ("shapes", "is_shapes", {"thing": ((("cut", "a"),),)}, True),
    ("shapes", "moved", {"move": ("put", "a", 2), "document": ("tree", ())}, OTHER),
    ("leading", "led", {"holder": "x", "upto": 1, "since": 0, "shapes": ((),), "document": DOCUMENT}, DOCUMENT),
    ("leading", "view_of", {"stands": STANDS}, (("x", DOCUMENT),)),
    ("leading", "led_all", {"stands": STANDS}, ((("x", DOCUMENT, 1),), (INDEX,), ((),))),
    ("entries", "is_index", {"thing": INDEX}, True),
    ("entries", "is_entry", {"thing": ENTRY}, True),
    ("entries", "is_stands", {"thing": STANDS}, True),
    ("entries", "is_history", {"thing": HISTORY}, True),
    ("keys", "keys_of", {"index": INDEX, "document": DOCUMENT}, ((1, 1),)),
    ("keys", "rows_of", {"name": "by", "stands": STANDS}, (((1, 1), "x"),)),
    ("standing", "is_fit", {"stands": STANDS}, True),
    ("standing", "let_in", {"entry": ENTRY, "stands": STANDS}, BARE),
    ("histories", "is_right", {"history": HISTORY}, True),
    ("histories", "last_mark", {"history": HISTORY}, 4),
    ("histories", "stands_at", {"mark": 3, "history": HISTORY}, STANDS),
    ("histories", "view_at", {"mark": 3, "history": HISTORY}, (("x", DOCUMENT),)),
    ("histories", "history_on", {"entry": ("bare", "by"), "history": HISTORY},
     (3, STANDS, (ENTRY, ("bare", "by")))),
    ("histories", "forgotten", {"mark": 4, "history": HISTORY}, (4, BARE, ())),
    ("indexchecker", "lets_rows", {"thing": (((1, 1), "x"),), "name": "by", "stands": STANDS}, 1),
    ("asks", "asked_all", {"order": PATH, "test": ("there", PATH), "stands": STANDS}, (("x", DOCUMENT),)),
    ("plans", "plans_for", {"test": ("and", ()), "stands": STANDS}, (("all",),)),
    ("plans", "plan_ids", {"plan": ("all",), "stands": STANDS}, ("x",)),
    ("plans", "asked_by", {"order": PATH, "plan": ("all",), "test": ("there", PATH), "stands": STANDS},
     (("x", DOCUMENT),)),
    ("planchecker", "lets_plan", {"thing": ("all",), "test": ("and", ()), "stands": STANDS}, True),
    ("folding", "folded", {"events": (("out", 1, "x"),), "rows": (("x", DOCUMENT),)}, ()),
    ("folding", "shortened", {"events": (("out", 1, "x"),), "rows": (("x", DOCUMENT),)}, (("out", 1, "x"),)),
    ("streams", "meeting_at", {"mark": 3, "test": ("and", ()), "history": HISTORY}, (("x", DOCUMENT),)),
    ("streams", "stream", {"short": True, "upto": 4, "since": 3, "test": ("and", ()), "history": HISTORY},
     (("out", 4, "x"),)),
    ("streamchecker", "is_event", {"thing": ("out", 4, "x")}, True),
    ("streamchecker", "lets_stream", {"upto": 4, "since": 3, "thing": (("out", 4, "x"),), "test": ("and", ()),
                                      "history": HISTORY}, 1),
    ("joins", "joined", {"theirs": OTHER, "ours": None, "base": None}, (OTHER, OTHER, ())),
    ("joins", "joined_rows", {"theirs": (("x", OTHER),), "ours": (), "base": ()},
     ((("x", OTHER),), (("x", OTHER),), ())),
    ("joins", "joined_stands", {"theirs": BARE, "ours": STANDS, "base": STANDS}, (BARE, BARE, ())),
    ("joinchecker", "lets_join", {"thing": (OTHER, OTHER, ()), "theirs": OTHER, "ours": None, "base": None}, 0),
    ("housechecker", "lets_houses", {"thing": ((0, None, (), 0),) * 3}, 0),
    ("askers", "are_asker_rows", {"thing": (("write", ENTRY),)}, True),
    ("askers", "judged", {"rows": (("write", ENTRY),), "history": HISTORY}, ("fits", (4,))),
    ("judgechecker", "lets_judged", {"thing": ("fits", (4,)), "rows": (("write", ENTRY),), "history": HISTORY}, True),
    ("logs", "is_log", {"thing": (("store", 3), ("stand", 0))}, True),
    ("rowtexts", "row_line", {"deed": ("stand", 0)}, "stand 0"),
    ("rowtexts", "log_lines", {"log": (("store", 3), ("stand", 0))}, ["store 3", "stand 0"]),
    ("rowreadings", "read_row", {"text": "stand 0"}, ("stand", 0)),
    ("rowreadings", "read_log", {"lines": ["store 3", "stand 0"]}, (("store", 3), ("stand", 0))),
)


def defined_in(name, kind):
    tree = ast.parse((PACKAGE / (name + ".py")).read_text(encoding="utf-8"))
    return [node.name for node in tree.body if isinstance(node, kind)]


class Interface(unittest.TestCase):
    def test_functions(self):
        for module, calls in FUNCTIONS.items():
            held = importlib.import_module("pathfolios." + module)
            for call in calls:
                name = call.partition("(")[0]
                with self.subTest(call):
                    self.assertEqual(name + str(inspect.signature(getattr(held, name))), call)
                    self.assertIn(name, defined_in(module, ast.FunctionDef))

    def test_classes(self):
        for module, calls in CLASSES.items():
            held = importlib.import_module("pathfolios." + module)
            for call in calls:
                name = call.partition("(")[0]
                with self.subTest(call):
                    self.assertIn(name, defined_in(module, ast.ClassDef))
                    if "__init__" in vars(getattr(held, name)):
                        self.assertEqual(name + str(inspect.signature(getattr(held, name))), call)
                    else:
                        self.assertEqual(name + "()", call)

    def test_methods_stand_in_the_class_itself(self):
        for (module, name), calls in METHODS.items():
            held = getattr(importlib.import_module("pathfolios." + module), name)
            for call in calls:
                with self.subTest(name + "." + call):
                    method = call.partition("(")[0]
                    self.assertIn(method, vars(held))
                    self.assertEqual(method + str(inspect.signature(vars(held)[method])), call)

    def test_methods_by_name(self):
        kept = Kept(stands=STANDS)
        self.assertEqual(kept.rows(name="by"), (((1, 1), "x"),))
        self.assertEqual(kept.done(entry=ENTRY), (0, 1))
        self.assertEqual(kept.stands(), BARE)
        houses = Houses(many=4)
        for deed, arguments, told in (
                ("stand", {"house": 0}, (1, (0, 1, 2, 3))), ("write", {"entry": ("shape", ()), "house": 0}, 1),
                ("send", {"other": 2, "house": 0}, ((), 0)), ("send", {"other": 1, "house": 0}, ((), 1)),
                ("read", {"mark": 1, "house": 1}, (1, (0, ((), (), ()), (("shape", ()),)))),
                ("latest", {"house": 0}, (1, (0, ((), (), ()), (("shape", ()),)))),
                ("part", {"other": 3, "house": 0}, True), ("is_linked", {"other": 3, "house": 0}, False),
                ("meet", {"other": 3, "house": 0}, True), ("fall", {"house": 3}, None), ("is_up", {"house": 3}, False),
                ("rise", {"house": 3}, None), ("does_lead", {"house": 0}, True), ("term_of", {"house": 0}, 1),
                ("done_of", {"house": 0}, 1), ("vote_of", {"house": 3}, 0),
                ("log_of", {"house": 0}, ((1, ("shape", ())),))):
            self.assertEqual(repr(getattr(houses, deed)(**arguments)), repr(told), deed)
        self.assertRaises(TypeError, houses.read, 0, 1)

    def test_methods_of_a_store_by_name(self):
        store = Store(many=4)
        put = ("put", "x", DOCUMENT, 0)
        for deed, arguments, told in (
                ("stand", {"house": 0}, (1, (0, 1, 2, 3))), ("write", {"entry": put, "house": 0, "asker": "ann"}, 1),
                ("turn", {"change": (None, (DEED,)), "holder": "x", "house": 0, "asker": "bo"}, 2),
                ("send", {"other": 2, "house": 0}, ((), 0)), ("send", {"other": 1, "house": 0}, ((), 2)),
                ("settle", {"house": 1, "asker": "ann"}, ((1,), ())),
                ("read", {"holder": "x", "house": 1, "asker": "cy"}, (2, OTHER)),
                ("latest", {"holder": "y", "house": 0, "asker": "cy"}, (2, None)),
                ("mark_of", {"asker": "ann"}, 1), ("writes_of", {"asker": "bo"}, ((2, 1, ("put", "x", OTHER, 0)),)),
                ("tale_of", {"asker": "ann"}, (("write", put),)),
                ("history_of", {"house": 3}, (0, ((), (), ()), ())),
                ("ask", {"order": PATH, "plan": ("all",), "mark": 1, "test": ("and", ()), "house": 0},
                 (("x", DOCUMENT),)),
                ("stream_at", {"short": True, "upto": 2, "since": 1, "test": ("and", ()), "house": 0},
                 (("on", 2, "x", OTHER),)),
                ("forget", {"mark": 0}, None), ("branch", {"house": 0, "name": "far"}, None),
                ("write_on", {"entry": ENTRY, "name": "far"}, None), ("branch_stands", {"name": "far"}, ((), (), ())),
                ("bring", {"house": 0, "name": "far", "asker": "ann"}, ((3,), (), ())),
                ("part", {"other": 3, "house": 0}, True), ("meet", {"other": 3, "house": 0}, True),
                ("fall", {"house": 3}, None), ("rise", {"house": 3}, None),
                ("write", {"entry": ("index",) + INDEX, "house": 0, "asker": "ann"}, 4),
                ("send", {"other": 1, "house": 0}, ((), 2)), ("send", {"other": 2, "house": 0}, ((), 4)),
                ("rows_at", {"mark": 4, "name": "by", "house": 0}, ()),
                ("do_all", {"keep": True, "deeds": (("fall", 3),)}, 1)):
            self.assertEqual(repr(getattr(store, deed)(**arguments)), repr(told), deed)
        self.assertEqual(Desk().say(asking="store 3"), "ok")

    def test_what_stands_behind_a_star_has_no_place(self):
        for module, calls in FUNCTIONS.items():
            for call in [call for call in calls if "*" in call]:
                held = getattr(importlib.import_module("pathfolios." + module), call.partition("(")[0])
                many = len(call.partition("(")[2].partition(", *")[0].split(", "))
                self.assertRaises(TypeError, held, *[None] * (many + 1))

    def test_calls_by_name(self):
        for module, name, arguments, told in CALLS_BY_NAME:
            with self.subTest(name):
                held = getattr(importlib.import_module("pathfolios." + module), name)
                answer = held(**arguments)
                self.assertEqual(repr(answer), repr(told))

    def test_replayed_by_name(self):
        self.assertTrue(replayed(log=(("store", 4),)) == Store(4))

    def test_each_function_is_called_by_name(self):
        called = sorted(["replaying.replayed"] + [module + "." + name for module, name, _, _ in CALLS_BY_NAME])
        told = sorted([module + "." + call.partition("(")[0] for module, calls in FUNCTIONS.items() for call in calls])
        self.assertEqual(called, told)


if __name__ == "__main__":
    unittest.main()
