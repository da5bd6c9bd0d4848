"""[43], [44], [45], [47], [53]: MEETINGS at MARKS, STREAMS and SHORT STREAMS between them."""

import random

from pathfolios.bounds import NONE_BUT
from pathfolios.folding import folded, shortened
from pathfolios.histories import forgotten
from pathfolios.leading import led_all
from pathfolios.streams import meeting_at, stream
from tests.checks import Checks, at, row, tree
from tests.makers import a_test, shape_of
from tests.pasts import NOTHING, a_history, a_paper
from tests.plainly import plain_meeting, plain_short, plain_stands, plain_stream

A = at("a")
HAS = ("there", A)


def past(*entries, first=0, stands=NOTHING):
    return (first, stands, entries)


def put(holder, edition=0, **fields):
    return ("put", holder, tree(**fields), edition)


class Meeting(Checks):
    HISTORY = past(put("x", a=1), put("b", b=1), put("b", a=2), ("shape", (("move", "a", "c"),)), put("a", 1, a=3),
                   ("gone", "x"), first=3)

    def test_at_each_mark(self):
        x, b, a = ("x", tree(a=1)), ("b", tree(a=2)), ("a", tree(a=3))
        for mark, told in enumerate(((), (x,), (x,), (b, x), (), (a,), (a,))):
            self.told(told, meeting_at, self.HISTORY, HAS, mark=3 + mark)
        led = (("b", tree(c=2)), ("x", tree(c=1)))
        for mark, told in enumerate(((), (), (), (), led, led, led[:1])):
            self.told(told, meeting_at, self.HISTORY, ("there", at("c")), mark=3 + mark)

    def test_the_last(self):
        told = (("a", tree(a=3)), ("b", tree(c=2)))
        self.told(told, meeting_at, self.HISTORY, NONE_BUT)
        self.told(told, meeting_at, self.HISTORY, NONE_BUT, mark=None)
        self.told(told, meeting_at, self.HISTORY, NONE_BUT, mark=9)
        self.told((), meeting_at, self.HISTORY, ("or", ()))

    def test_no_mark(self):
        for mark in (2, 10, 0, -1, 10 ** 59, -10 ** 59):
            self.refused("NoMark", (mark,), meeting_at, self.HISTORY, HAS, mark=mark)

    def test_many(self):
        source = random.Random(43)
        for _ in range(100):
            history = a_history(source, source.randrange(10))
            test = a_test(source, a_paper(source))
            for mark, stands in plain_stands(history).items():
                self.told(tuple(plain_meeting(stands, test).items()), meeting_at, history, test, mark=mark)
                self.told(meeting_at(history, test, mark=mark), meeting_at, (0, led_all(stands), ()), test)


class Stream(Checks):
    def streams(self, history, test, *events, short=None, **marks):
        """A STREAM, and the SHORT one, which has the same EVENTS where none are told."""
        named = {"since": history[0], **marks}
        self.told(events, stream, history, test, **named)
        self.told(events, stream, history, test, short=False, **named)
        self.told(events if short is None else short, stream, history, test, short=True, **named)

    def test_nothing_turns(self):
        self.streams(past(), NONE_BUT)
        self.streams(past(first=9, stands=((("x", tree(a=1), 0),), (), ())), NONE_BUT)
        self.streams(past(("index", "by", A, True, None), ("bare", "by"), ("shape", ())), NONE_BUT)
        self.streams(past(put("x", b=1), put("x", b=2), ("gone", "x")), HAS)

    def test_in(self):
        self.streams(past(put("x", a=1)), HAS, ("in", 1, "x", tree(a=1)))
        self.streams(past(put("x", a=1), first=7), NONE_BUT, ("in", 8, "x", tree(a=1)))
        self.streams(past(put("x", b=1), put("x", a=1)), HAS, ("in", 2, "x", tree(a=1)))

    def test_on(self):
        history = past(put("x", a=1), put("x", a=2))
        self.streams(history, HAS, ("on", 2, "x", tree(a=2)), since=1)
        self.streams(history, HAS, ("in", 1, "x", tree(a=1)), ("on", 2, "x", tree(a=2)),
                     short=(("in", 2, "x", tree(a=2)),))

    def test_out(self):
        self.streams(past(put("x", a=1), ("gone", "x")), HAS, ("out", 2, "x"), since=1)
        self.streams(past(put("x", a=1), put("x", b=1)), HAS, ("out", 2, "x"), since=1)

    def test_like_ones_are_no_event(self):
        history = past(put("x", a=1), put("x", a=1), ("gone", "x"), put("x", a=1))
        self.streams(history, HAS, since=1, upto=2)
        self.streams(history, HAS, ("out", 3, "x"), ("in", 4, "x", tree(a=1)), short=(), since=1)

    def test_a_truth_beside_a_number_is_unlike(self):
        history = past(put("x", a=1), put("x", a=True), put("x", a=row(0)), put("x", a=row(False)))
        self.streams(history, HAS, ("on", 2, "x", tree(a=True)), since=1, upto=2)
        self.streams(history, HAS, ("on", 4, "x", tree(a=row(False))), since=3)

    def test_a_test_that_is_met_no_more(self):
        history = past(put("x", a=1), put("x", a=5), put("x", a=6), put("x", a=2))
        self.streams(history, ("above", A, 4), ("in", 2, "x", tree(a=5)), ("on", 3, "x", tree(a=6)), ("out", 4, "x"),
                     short=())
        self.streams(history, ("above", A, 4), ("in", 2, "x", tree(a=5)), ("on", 3, "x", tree(a=6)),
                     short=(("in", 3, "x", tree(a=6)),), upto=3)
        self.streams(history, ("above", A, 4), ("on", 3, "x", tree(a=6)), ("out", 4, "x"),
                     short=(("out", 4, "x"),), since=2)

    def test_several_ids_at_one_mark(self):
        stands = ((("a", tree(a=1), 0), ("b", tree(b=1), 0), ("c", tree(a=2, c=1), 0), ("d", tree(c=1), 0)), (), ())
        history = past(("shape", (("cut", "a"), ("move", "b", "a"), ("into", "c", "d"))), first=4, stands=stands)
        self.streams(history, HAS, ("out", 5, "a"), ("in", 5, "b", tree(a=1)), ("out", 5, "c"))
        self.streams(history, ("there", at("c")), ("on", 5, "c", tree(c=tree(d=1))), ("on", 5, "d", tree(c=tree(d=1))))
        self.streams(history, NONE_BUT, ("on", 5, "a", tree()), ("on", 5, "b", tree(a=1)),
                     ("on", 5, "c", tree(c=tree(d=1))), ("on", 5, "d", tree(c=tree(d=1))))

    def test_a_shape_that_turns_nothing(self):
        history = past(put("x", a=1), ("shape", (("cut", "b"),)), ("shape", (("move", "a", "b"), ("move", "b", "a"))))
        self.streams(history, HAS, since=1)

    def test_a_put_of_an_elder_edition_is_led(self):
        history = past(("shape", (("move", "b", "a"),)), put("x", 0, b=1), put("x", 1, a=1), put("x", 1, b=1))
        self.streams(history, HAS, ("in", 2, "x", tree(a=1)), ("out", 4, "x"), short=())

    def test_marks(self):
        history = past(put("x", a=1), put("y", a=1), put("x", a=2), first=5)
        events = (("in", 6, "x", tree(a=1)), ("in", 7, "y", tree(a=1)), ("on", 8, "x", tree(a=2)))
        for since in range(5, 9):
            for upto in range(since, 9):
                self.told(events[since - 5:upto - 5], stream, history, HAS, since=since, upto=upto)
            self.told(events[since - 5:], stream, history, HAS, since=since)
            self.told(events[since - 5:], stream, history, HAS, since=since, upto=None)
            self.told((), stream, history, HAS, since=since, upto=since)
            self.told((), stream, history, HAS, since=since, upto=since, short=True)

    def test_no_marks(self):
        history = past(put("x", a=1), put("x", a=2), first=5)
        for short in (True, False):
            for since in (4, 8, -1, 0, 10 ** 59):
                for upto in (None, 5, 7, 4, 8, -1):
                    self.refused("NoMark", (since,), stream, history, HAS, since=since, upto=upto, short=short)
            for since, upto in ((5, 4), (5, 8), (6, 5), (7, 6), (7, 8), (5, -1), (5, 10 ** 59), (6, -10 ** 59)):
                self.refused("NoMark", (upto,), stream, history, HAS, since=since, upto=upto, short=short)

    def test_short_on_and_on(self):
        history = past(put("x", a=1), put("x", a=2), put("x", a=3), put("y", a=9), put("x", a=4), put("z", b=1))
        events = (("on", 2, "x", tree(a=2)), ("on", 3, "x", tree(a=3)), ("in", 4, "y", tree(a=9)),
                  ("on", 5, "x", tree(a=4)))
        self.streams(history, HAS, *events, short=(events[2], events[3]), since=1)

    def test_short_like_at_both_ends(self):
        history = past(put("x", a=1), put("x", a=2), put("x", a=1))
        self.streams(history, HAS, ("on", 2, "x", tree(a=2)), ("on", 3, "x", tree(a=1)), short=(), since=1)
        history = past(put("x", a=1), put("x", a=2), put("x", a=True))
        self.streams(history, HAS, ("on", 2, "x", tree(a=2)), ("on", 3, "x", tree(a=True)),
                     short=(("on", 3, "x", tree(a=True)),), since=1)

    def test_short_in_and_out_again(self):
        history = past(put("x", a=1), ("gone", "x"), put("y", a=1), put("x", a=1), ("gone", "y"), ("gone", "x"))
        self.streams(history, HAS, ("in", 1, "x", tree(a=1)), ("out", 2, "x"), ("in", 3, "y", tree(a=1)),
                     ("in", 4, "x", tree(a=1)), ("out", 5, "y"), ("out", 6, "x"), short=())

    def test_short_out_and_in_again(self):
        history = past(put("x", a=1), ("gone", "x"), put("x", a=2))
        self.streams(history, HAS, ("out", 2, "x"), ("in", 3, "x", tree(a=2)), short=(("on", 3, "x", tree(a=2)),),
                     since=1)

    def test_short_by_marks_then_by_ids(self):
        stands = ((("b", tree(a=1), 0), ("d", tree(a=1), 0)), (), ())
        history = past(put("a", a=1), put("e", a=1), ("shape", (("move", "a", "c"), ("put", "a", 7))), put("b", 1, b=1),
                       stands=stands)
        short = (("in", 3, "a", tree(a=7, c=1)), ("on", 3, "d", tree(a=7, c=1)), ("in", 3, "e", tree(a=7, c=1)),
                 ("out", 4, "b"))
        self.told(short, stream, history, HAS, since=0, short=True)

    def test_many(self):
        source = random.Random(44)
        seen = {}
        for _ in range(80):
            history = a_history(source, source.randrange(1, 9))
            test = source.choice((NONE_BUT, HAS, a_test(source, a_paper(source))))
            stands = plain_stands(history)
            for since in stands:
                for upto in range(since, max(stands) + 1):
                    events = plain_stream(history, test, since, upto)
                    ahead, behind = plain_meeting(stands[since], test), plain_meeting(stands[upto], test)
                    short = plain_short(ahead, behind, events)
                    self.told(events, stream, history, test, since=since, upto=upto)
                    self.told(short, stream, history, test, since=since, upto=upto, short=True)
                    self.folds(history, test, since, upto)
                    for event in events:
                        seen[event[0]] = seen.get(event[0], 0) + 1
                    seen["short"] = seen.get("short", 0) + (shape_of(short) != shape_of(events))
        for word in ("in", "on", "out", "short"):
            self.assertGreater(seen[word], 100)

    def folds(self, history, test, since, upto):
        """[47], and [49] as far as it speaks of what is told here."""
        events = stream(history, test, since=since, upto=upto)
        short = stream(history, test, since=since, upto=upto, short=True)
        rows = meeting_at(history, test, mark=since)
        told = meeting_at(history, test, mark=upto)
        self.told(told, folded, rows, events)
        self.told(told, folded, rows, short)
        self.told(short, shortened, rows, events)
        self.told(short, shortened, rows, short)
        middle = (since + upto) // 2
        halves = (stream(history, test, since=since, upto=middle), stream(history, test, since=middle, upto=upto))
        self.told(halves[0] + halves[1], stream, history, test, since=since, upto=upto)
        self.told(events, stream, forgotten(history, since), test, since=since, upto=upto)
