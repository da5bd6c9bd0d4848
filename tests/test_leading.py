"""[7], [51], [52], [53]: DOCUMENTS LED, the VIEW, and all LED at once."""

import random

from pathfolios.errors import NoLead
from pathfolios.leading import led, led_all, view_of
from tests.checks import Checks, refusal_of, row, tree
from tests.makers import shape_of
from tests.pasts import a_paper, some_shapes, some_stands
from tests.plainly import plain_view

# "out" turns nothing where a is MISSING or a TREE without it, and can't be done where a is a PLAIN.
STOP = ("out", "a", "stop")
SHAPES = ((("put", "b", 1), ("move", "b", "c")), (), (("into", "c", "d"), ("cut", "a")), (("out", "c", "d"),))


class Led(Checks):
    def test_moves_one_behind_the_other(self):
        self.told(tree(a=0, c=1), led, tree(a=0), SHAPES, since=0, upto=1)
        self.told(tree(c=tree(d=1)), led, tree(a=0), SHAPES, since=0, upto=3)
        self.told(tree(c=tree(), d=1), led, tree(a=0), SHAPES, since=0, upto=4)

    def test_from_each_edition(self):
        self.told(tree(a=0), led, tree(a=0), SHAPES, since=1, upto=2)
        self.told(tree(c=tree(d=row())), led, tree(a=0, c=row()), SHAPES, since=1, upto=3)
        self.told(tree(c=tree(), d=3), led, tree(c=tree(d=3)), SHAPES, since=3, upto=4)

    def test_upto_left_out_is_the_newest(self):
        for since in range(5):
            document = tree(a=0) if since < 3 else tree(c=tree(d=1))
            answer = led(document, SHAPES, since=since, upto=4)
            self.told(answer, led, document, SHAPES, since=since)
            self.told(answer, led, document, SHAPES, since=since, upto=None)

    def test_upto_since_itself_turns_nothing(self):
        for since in range(5):
            self.told(tree(a=0, b=True), led, tree(a=0, b=True), SHAPES, since=since, upto=since)
        self.told(tree(a=0), led, tree(a=0), (), since=0)
        self.told(tree(a=0), led, tree(a=0), ((STOP,),), since=1)

    def test_since_is_no_edition(self):
        for since in (-1, 5, -10 ** 59, 10 ** 59):
            for upto in (None, 0, 4, -1, 5):
                self.refused("NoMark", (since,), led, tree(a=0), SHAPES, since=since, upto=upto)
        self.refused("NoMark", (1,), led, tree(a=0), (), since=1, upto=1)
        self.refused("NoMark", (2,), led, tree(a=0), ((STOP,),), since=2, holder="x")

    def test_upto_is_no_edition(self):
        for since, upto in ((0, 5), (0, -1), (1, 0), (4, 3), (2, 10 ** 59), (0, -10 ** 59)):
            self.refused("NoMark", (upto,), led, tree(a=0), SHAPES, since=since, upto=upto)
        self.refused("NoMark", (2,), led, tree(a=0), ((STOP,),), since=0, upto=2, holder="x")

    def test_it_cant_be_led(self):
        shapes = ((("put", "b", 1),), (STOP,), (STOP,))
        self.refused("NoLead", ("", 0), led, tree(a=0), shapes, since=0)
        self.refused("NoLead", ("", 1), led, tree(a=0), shapes, since=1)
        self.refused("NoLead", ("x", 2), led, tree(a=0), shapes, since=2, holder="x")
        self.refused("NoLead", ("zzzzzzzz", 0), led, tree(a=0), shapes, since=0, upto=2, holder="zzzzzzzz")
        self.refused("NoLead", ("", 1), led, tree(a=0), shapes, since=1, upto=2, holder="")

    def test_moves_outside_of_the_editions_dont_matter(self):
        shapes = ((STOP,), (("put", "b", 1),), (STOP,))
        self.told(tree(a=0, b=1), led, tree(a=0), shapes, since=1, upto=2)
        self.told(tree(a=0), led, tree(a=0), shapes, since=1, upto=1, holder="x")

    def test_a_move_behind_one_that_cant_be_done(self):
        self.refused("NoLead", ("", 0), led, tree(a=0), ((STOP, ("cut", "a")),), since=0)
        self.told(tree(), led, tree(a=0), ((("cut", "a"), STOP),), since=0)

    def test_led_by_steps_is_led_at_once(self):
        source = random.Random(53)
        whole = 0
        for _ in range(600):
            shapes, document = some_shapes(source, 4), a_paper(source)
            since = source.randrange(len(shapes) + 1)
            upto = source.randrange(since, len(shapes) + 1)
            at_once = refusal_of(led, document, shapes, since=since, upto=upto)
            for middle in range(since, upto + 1):
                try:
                    half = led(document, shapes, since=since, upto=middle)
                    answer = led(half, shapes, since=middle, upto=upto)
                except NoLead:
                    self.assertEqual(at_once, ("NoLead", ("", since)))
                else:
                    whole += 1
                    self.told(answer, led, document, shapes, since=since, upto=upto)
        self.assertGreater(whole, 300)


class AllThatStand(Checks):
    def test_nothing(self):
        self.told((), view_of, ((), (), ()))
        self.told(((), (), ()), led_all, ((), (), ()))
        self.told(((), (), SHAPES), led_all, ((), (), SHAPES))

    def test_several_editions(self):
        index = ("by", (("field", "d"),), True, None)
        documents = (("a", tree(a=0), 0), ("b", tree(b=True), 4), ("c", tree(c=tree(d=3)), 3), ("d", tree(a=9), 2))
        view = (("a", tree(c=tree(), d=1)), ("b", tree(b=True)), ("c", tree(c=tree(), d=3)), ("d", tree()))
        self.told(view, view_of, (documents, (index,), SHAPES))
        self.told((tuple([(holder, document, 4) for holder, document in view]), (index,), SHAPES),
                  led_all, (documents, (index,), SHAPES))

    def test_the_least_id_that_cant_be_led(self):
        shapes = ((), (STOP,), (STOP,))
        documents = (("a", tree(b=0), 0), ("b", tree(a=0), 3), ("c", tree(a=0), 2), ("d", tree(a=0), 0))
        for call in (view_of, led_all):
            self.refused("NoLead", ("c", 2), call, (documents, (), shapes))
            self.refused("NoLead", ("d", 0), call, (documents[:2] + documents[3:], (), shapes))
            self.refused("NoLead", ("a", 1), call, ((("a", tree(a=0), 1),) + documents[1:], (), shapes))

    def test_indexes_dont_matter(self):
        documents = (("a", tree(a=0), 0), ("b", tree(a=0), 0))
        stands = (documents, (("by", (("field", "a"),), True, None),), ())
        self.told((("a", tree(a=0)), ("b", tree(a=0))), view_of, stands)
        self.told(stands, led_all, stands)

    def test_many(self):
        source = random.Random(52)
        seen = {True: 0, False: 0}
        for _ in range(800):
            stands = some_stands(source)
            documents, indexes, shapes = stands
            self.does(lambda stands: tuple(plain_view(stands).items()), view_of, stands)
            refusal = refusal_of(view_of, stands)
            seen[refusal is None] += 1
            if refusal is not None:
                self.refused(*refusal, led_all, stands)
                continue
            whole = led_all(stands)
            view = view_of(stands)
            self.told((tuple([pair + (len(shapes),) for pair in view]), indexes, shapes), led_all, stands)
            self.told(view, view_of, whole)
            self.told(whole, led_all, whole)
            for holder, document, edition in documents:
                alone = led(document, shapes, since=edition, holder=holder)
                self.assertEqual(shape_of(alone), shape_of(dict(view)[holder]))
        self.assertGreater(min(seen.values()), 100)
