"""[46]: rows FOLDED by EVENTS, and the SHORT ones of EVENTS, as anybody might write them."""

import random

from pathfolios.folding import folded, shortened
from tests.checks import Checks, tree
from tests.pasts import IDS, a_paper
from tests.plainly import plain_short

ONE, TWO, OTHER = tree(a=1), tree(a=2), tree(a=True)
ROWS = (("a", ONE), ("c", TWO))


class Folded(Checks):
    def folds(self, events, *answer, rows=ROWS):
        self.told(answer, folded, rows, events)

    def test_no_events(self):
        self.folds((), *ROWS)
        self.folds((), rows=())

    def test_in_and_on(self):
        for word in ("in", "on"):
            self.folds(((word, 1, "b", OTHER),), ROWS[0], ("b", OTHER), ROWS[1])
            self.folds(((word, 1, "a", OTHER),), ("a", OTHER), ROWS[1])
            self.folds(((word, 1, "a", ONE),), *ROWS)
            self.folds(((word, -9, "zz", tree()),), *ROWS, ("zz", tree()))
            self.folds(((word, 1, "b", OTHER),), ("b", OTHER), rows=())

    def test_out(self):
        self.folds((("out", 1, "a"),), ROWS[1])
        self.folds((("out", 1, "b"),), *ROWS)
        self.folds((("out", 1, "b"),), rows=())
        self.folds((("out", 1, "a"), ("out", 1, "a"), ("out", 0, "c")))

    def test_one_by_one_whatever_the_marks(self):
        self.folds((("out", 9, "a"), ("on", 3, "a", TWO), ("in", -5, "b", ONE), ("in", 3, "a", OTHER)),
                   ("a", OTHER), ("b", ONE), ROWS[1])
        self.folds((("in", 9, "b", ONE), ("out", 1, "b")), *ROWS)
        self.folds((("in", 1, "c", ONE), ("out", 9, "a"), ("in", 0, "a", TWO)), ("a", TWO), ("c", ONE))


class Shortened(Checks):
    def short(self, events, *answer, rows=ROWS):
        self.told(answer, shortened, rows, events)

    def test_no_events(self):
        self.short(())
        self.short((), rows=())

    def test_in(self):
        self.short((("in", 4, "b", ONE),), ("in", 4, "b", ONE))
        self.short((("on", 4, "b", ONE),), ("in", 4, "b", ONE))
        self.short((("out", 1, "b"), ("on", 4, "b", TWO), ("on", 6, "b", ONE)), ("in", 6, "b", ONE))

    def test_on(self):
        for word in ("in", "on"):
            self.short(((word, 4, "a", TWO),), ("on", 4, "a", TWO))
            self.short(((word, 4, "a", OTHER),), ("on", 4, "a", OTHER))
            self.short((("out", 2, "a"), (word, 4, "a", OTHER)), ("on", 4, "a", OTHER))

    def test_out(self):
        self.short((("out", 4, "a"),), ("out", 4, "a"))
        self.short((("in", 3, "a", TWO), ("out", 4, "a"), ("out", 5, "a")), ("out", 5, "a"))

    def test_none(self):
        self.short((("out", 4, "b"),))
        self.short((("in", 4, "b", ONE), ("out", 5, "b")))
        self.short((("on", 4, "a", ONE),))
        self.short((("out", 4, "a"), ("in", 5, "a", ONE)))
        self.short((("on", 4, "a", TWO), ("on", 5, "a", ONE)))

    def test_the_mark_of_the_last_event_as_they_stand(self):
        self.short((("in", 9, "b", ONE), ("on", 2, "b", TWO)), ("in", 2, "b", TWO))
        self.short((("on", -3, "a", TWO), ("on", -7, "a", OTHER)), ("on", -7, "a", OTHER))
        self.short((("in", 9, "b", ONE), ("out", 1, "b"), ("on", 5, "b", ONE), ("in", 5, "b", TWO)),
                   ("in", 5, "b", TWO))

    def test_by_marks_then_by_ids(self):
        events = (("in", 3, "z", ONE), ("in", 3, "b", ONE), ("out", 1, "c"), ("on", 2, "a", TWO), ("in", -1, "x", TWO))
        self.short(events,
                   ("in", -1, "x", TWO), ("out", 1, "c"), ("on", 2, "a", TWO), ("in", 3, "b", ONE), ("in", 3, "z", ONE))

    def test_many(self):
        source = random.Random(46)
        papers = [a_paper(source) for _ in range(3)] + [ONE, OTHER]
        for _ in range(1500):
            rows = {holder: source.choice(papers) for holder in sorted(source.sample(IDS, source.randrange(4)))}
            events = tuple([self.an_event(source, papers) for _ in range(source.randrange(9))])
            behind = dict(rows)
            for event in events:
                behind.pop(event[2], None)
                behind.update([event[2:]] if event[0] != "out" else [])
            pairs = tuple(rows.items())
            self.told(tuple([(holder, behind[holder]) for holder in sorted(behind)]), folded, pairs, events)
            self.told(plain_short(rows, behind, events), shortened, pairs, events)
            self.told(folded(pairs, events), folded, pairs, shortened(pairs, events))
            short = shortened(pairs, events)
            self.told(short, shortened, pairs, short)

    def an_event(self, source, papers):
        word = source.choice(("in", "on", "out"))
        event = (word, source.randrange(-3, 7), source.choice(IDS))
        return event if word == "out" else event + (source.choice(papers),)
