"""[44], [48], [49]: EVENTS by kind, and any thing looked at as a STREAM."""

import random

from pathfolios.bounds import NONE_BUT
from pathfolios.histories import forgotten, last_mark
from pathfolios.streamchecker import is_event, lets_stream
from pathfolios.streams import stream
from tests.checks import Checks, at, row, tree
from tests.makers import NO_NUMBERS, NO_WORDS, ODD_THINGS, a_test, shape_of
from tests.pasts import NOTHING, a_history, a_paper

A = at("a")
HAS = ("there", A)
EVENTS = (("in", 6, "x", tree(a=1)), ("in", 7, "y", tree(a=row(1))), ("on", 8, "x", tree(a=True)), ("out", 9, "y"))
HISTORY = (5, NOTHING, (("put", "x", tree(a=1), 0), ("put", "y", tree(a=row(1)), 0), ("put", "x", tree(a=True), 0),
                        ("gone", "y")))
NO_DOCUMENTS = (None, 1, "a", (), row(), row(tree()), ("tree", []), ["tree", ()], ("tree", (("b", 1), ("a", 1))),
                ("tree", (("a", None),)), ("tree",), True)


class IsEvent(Checks):
    def event(self, thing, so):
        self.told(so, is_event, thing)

    def test_each_word(self):
        for mark in (0, 7, -3, 10 ** 59):
            for holder in ("a", "zzzzzzzz", "in"):
                self.event(("in", mark, holder, tree()), True)
                self.event(("on", mark, holder, tree(a=row(True))), True)
                self.event(("out", mark, holder), True)

    def test_no_event(self):
        for thing in ODD_THINGS + EVENTS[:0] + (EVENTS, ("at", 1, "x", tree()), ("In", 1, "x", tree()), "in", ("out",),
                                                ("", 1, "x"), (None, 1, "x"), ((), 1, "x"), (["out"], 1, "x")):
            self.event(thing, False)

    def test_too_short_too_long_a_list(self):
        for event in EVENTS:
            self.event(event, True)
            for many in range(len(event)):
                self.event(event[:many], False)
            self.event(event + (tree(),), False)
            self.event(event + (None,), False)
            self.event(list(event), False)
            self.event((event,), False)
        self.event(("out", 1, "x", tree()), False)
        self.event(("in", 1, "x"), False)

    def test_each_part(self):
        for word in ("in", "on", "out"):
            behind = () if word == "out" else (tree(),)
            for number in NO_NUMBERS:
                self.event((word, number, "x") + behind, False)
            for name in NO_WORDS:
                self.event((word, 1, name) + behind, False)
        for document in NO_DOCUMENTS:
            self.event(("in", 1, "x", document), False)
            self.event(("on", 1, "x", document), False)


class LetsStream(Checks):
    def lets(self, many, thing, history=HISTORY, test=HAS, **marks):
        for _ in range(2):
            self.told(many, lets_stream, history, test, thing, **{"since": 5, **marks})

    def no_paper(self, word, number, thing, history=HISTORY, test=HAS, **marks):
        for _ in range(2):
            self.refused("NoPaper", (word, number), lets_stream, history, test, thing, **{"since": 5, **marks})

    def test_the_stream(self):
        self.lets(4, EVENTS)
        for since in range(5, 10):
            for upto in range(since, 10):
                self.lets(upto - since, EVENTS[since - 5:upto - 5], since=since, upto=upto)
            self.lets(9 - since, EVENTS[since - 5:], since=since)
            self.lets(9 - since, EVENTS[since - 5:], since=since, upto=None)
        self.lets(0, (), test=("or", ()))

    def test_no_marks_ahead_of_all(self):
        for thing in ODD_THINGS[:6] + (EVENTS, (), EVENTS + EVENTS):
            for since, upto in ((4, None), (10, None), (4, 3), (10, 4), (-1, 99)):
                self.refused("NoMark", (since,), lets_stream, HISTORY, HAS, thing, since=since, upto=upto)
            for since, upto in ((5, 4), (5, 10), (7, 6), (9, 5), (5, -1)):
                self.refused("NoMark", (upto,), lets_stream, HISTORY, HAS, thing, since=since, upto=upto)

    def test_shape(self):
        for thing in ODD_THINGS + (list(EVENTS), EVENTS[0], {}, "in", 4, True, None):
            self.no_paper("shape", -1, thing)
        for part in ODD_THINGS + (list(EVENTS[3]), EVENTS[0][:3], EVENTS[3] + (tree(),), ("in", True, "x", tree(a=1)),
                                  (), ("out", 9, "Y"), ("in", 6, "x", tree(a=1), 0)):
            for number in range(5):
                self.no_paper("shape", -1, EVENTS[:number] + (part,) + EVENTS[number:])
            # What is wrong by kind goes ahead, though an EVENT ahead of it is another.
            self.no_paper("shape", -1, (EVENTS[3], part))

    def test_an_event_out(self):
        for number in range(3):
            self.no_paper("event", number, EVENTS[:number] + EVENTS[number + 1:])
        self.no_paper("lacks", 3, EVENTS[:3])

    def test_an_event_twice(self):
        for number in range(4):
            self.no_paper("event", number + 1, EVENTS[:number + 1] + EVENTS[number:])

    def test_more_behind(self):
        self.no_paper("event", 4, EVENTS + (("out", 9, "x"),))
        self.no_paper("event", 4, EVENTS + EVENTS)
        self.no_paper("event", 0, EVENTS[:1], test=("or", ()))

    def test_exchanged(self):
        self.no_paper("event", 0, (EVENTS[1], EVENTS[0]) + EVENTS[2:])
        self.no_paper("event", 2, EVENTS[:2] + (EVENTS[3], EVENTS[2]))

    def test_otherwise(self):
        for number, event in ((0, ("on", 6, "x", tree(a=1))), (0, ("in", 7, "x", tree(a=1))),
                              (0, ("in", 6, "xx", tree(a=1))), (0, ("in", 6, "x", tree(a=2))),
                              (0, ("out", 6, "x")), (2, ("in", 8, "x", tree(a=True))), (3, ("out", 8, "y")),
                              (3, ("on", 9, "y", tree())), (2, ("on", 8, "x", tree(a=True, b=1)))):
            self.no_paper("event", number, EVENTS[:number] + (event,) + EVENTS[number + 1:])

    def test_a_truth_beside_a_number_is_another(self):
        for number, event in ((0, ("in", 6, "x", tree(a=True))), (1, ("in", 7, "y", tree(a=row(True)))),
                              (2, ("on", 8, "x", tree(a=1)))):
            self.no_paper("event", number, EVENTS[:number] + (event,) + EVENTS[number + 1:])

    def test_lacks(self):
        for many in range(4):
            self.no_paper("lacks", many, EVENTS[:many])
        self.no_paper("lacks", 0, ())

    def test_the_first_of_these(self):
        self.no_paper("shape", -1, (EVENTS[2], None))
        self.no_paper("event", 0, (EVENTS[2],))
        self.no_paper("event", 1, (EVENTS[0], EVENTS[0]))

    def test_the_short_one_and_others(self):
        short = stream(HISTORY, HAS, since=5, short=True)
        self.assertEqual(shape_of(short), shape_of((("in", 8, "x", tree(a=True)),)))
        self.no_paper("event", 0, short)
        self.no_paper("event", 1, stream(HISTORY, ("like", A, True), since=5) + EVENTS, test=("like", A, True))
        self.no_paper("event", 0, stream(HISTORY, ("like", A, True), since=5))
        self.no_paper("lacks", 2, EVENTS[:2])
        self.no_paper("event", 0, EVENTS, since=6)
        self.no_paper("event", 2, EVENTS, upto=7)

    def test_many(self):
        source = random.Random(48)
        for _ in range(120):
            history = a_history(source, source.randrange(1, 10))
            test = source.choice((NONE_BUT, HAS, a_test(source, a_paper(source))))
            since = source.randrange(history[0], last_mark(history) + 1)
            upto = source.choice((None, source.randrange(since, last_mark(history) + 1)))
            events = stream(history, test, since=since, upto=upto)
            for history_kept in (history, forgotten(history, since), forgotten(history, history[0])):
                self.told(len(events), lets_stream, history_kept, test, events, since=since, upto=upto)
            other = list(events)
            for _ in range(source.randrange(1, 3)):
                place = source.randrange(len(other) + 1)
                other[place:place + source.randrange(2)] = [source.choice(EVENTS)] * source.randrange(2)
            self.judges(history, test, events, tuple(other), since, upto)

    def judges(self, history, test, events, other, since, upto):
        """What any tuple of EVENTS is refused by."""
        unlike = [number for number, event in enumerate(other) if shape_of(events[number:number + 1]) != shape_of((event,))]
        marks = {"since": since, "upto": upto}
        if unlike:
            self.refused("NoPaper", ("event", unlike[0]), lets_stream, history, test, other, **marks)
        elif len(other) < len(events):
            self.refused("NoPaper", ("lacks", len(other)), lets_stream, history, test, other, **marks)
        else:
            self.told(len(events), lets_stream, history, test, other, **marks)
