"""[58]: any thing looked at as a JOIN."""

import random

from pathfolios.joinchecker import lets_join
from pathfolios.joins import joined
from tests.checks import Checks, row, tree
from tests.makers import NO_WORDS, ODD_THINGS, shape_of
from tests.test_joins import three_near

BASE = tree(a=0, b=tree(c=0, d=0), e=0)
OURS = tree(a=1, b=tree(c=1, d=1), e=0)
THEIRS = tree(a=True, b=tree(c=2, d=1), e=5)
OUR_SIDE = tree(a=1, b=tree(c=1, d=1), e=5)
THEIR_SIDE = tree(a=True, b=tree(c=2, d=1), e=5)
PLACES = (("a",), ("b", "c"))
JOIN = (OUR_SIDE, THEIR_SIDE, PLACES)
MORE = (("a", "b"), ("b",), ("e",), ("b", "d"), ("b", "c", "d"), ("zz",), ())


class LetsJoin(Checks):
    def lets(self, many, thing, base=BASE, ours=OURS, theirs=THEIRS):
        for _ in range(2):
            self.told(many, lets_join, base, ours, theirs, thing)

    def no_paper(self, word, number, thing, base=BASE, ours=OURS, theirs=THEIRS):
        for _ in range(2):
            self.refused("NoPaper", (word, number), lets_join, base, ours, theirs, thing)

    def test_the_join(self):
        self.assertEqual(shape_of(joined(BASE, OURS, THEIRS)), shape_of(JOIN))
        self.lets(2, JOIN)
        self.lets(2, (THEIR_SIDE, OUR_SIDE, PLACES), ours=THEIRS, theirs=OURS)
        self.lets(0, (OURS, OURS, ()), theirs=BASE)
        self.lets(0, (None, None, ()), None, None, None)
        self.lets(0, (None, None, ()), theirs=None, ours=BASE)
        self.lets(1, (None, THEIRS, ((),)), ours=None)
        self.lets(1, (OURS, None, ((),)), theirs=None)

    def test_shape(self):
        for thing in ODD_THINGS + (list(JOIN), JOIN[:2], JOIN + ((),), {}, "join", 2, True, PLACES, OURS):
            self.no_paper("shape", -1, thing)
        for side in (1, "a", (), row(), True, [], ("tree", []), ("tree", (("a", None),)), ("tree", (("B", 1),))):
            self.no_paper("shape", -1, (side, THEIR_SIDE, PLACES))
            self.no_paper("shape", -1, (OUR_SIDE, side, PLACES))
        for places in (None, 2, "a", list(PLACES), PLACES + (None,), (["a"],), ("a",), (("a",), "b"), PLACES + ((1,),),
                       {}, True, ((("a",),),), (("a", 0),)):
            self.no_paper("shape", -1, (OUR_SIDE, THEIR_SIDE, places))
        for word in NO_WORDS:
            self.no_paper("shape", -1, (OUR_SIDE, THEIR_SIDE, ((word,),)))
            self.no_paper("shape", -1, (OUR_SIDE, THEIR_SIDE, PLACES + (("a", word),)))

    def places(self, word, number, *places):
        self.no_paper(word, number, (OUR_SIDE, THEIR_SIDE, places))
        # Sides that are others are due behind it.
        self.no_paper(word, number, (OURS, THEIR_SIDE, places))
        self.no_paper(word, number, (None, None, places))

    def test_a_place_that_is_none_of_the_clashes(self):
        for place in MORE:
            self.places("clash", 0, place)
            self.places("clash", 0, place, *PLACES)
            self.places("clash", 1, PLACES[0], place)
            self.places("clash", 1, PLACES[0], place, PLACES[1])
            self.places("clash", 2, *PLACES, place)

    def test_a_place_twice(self):
        self.places("clash", 1, PLACES[0], PLACES[0])
        self.places("clash", 1, PLACES[0], PLACES[0], PLACES[1])
        self.places("clash", 2, *PLACES, PLACES[1])
        self.places("clash", 2, *PLACES, PLACES[0])

    def test_places_that_dont_rise(self):
        self.places("clash", 1, PLACES[1], PLACES[0])

    def test_lacks(self):
        self.places("lacks", 0)
        self.places("lacks", 0, PLACES[1])
        self.places("lacks", 1, PLACES[0])

    def test_ours(self):
        for side in (OURS, THEIR_SIDE, THEIRS, None, tree(), tree(a=True, b=tree(c=1, d=1), e=5)):
            self.no_paper("ours", -1, (side, THEIR_SIDE, PLACES))
            self.no_paper("ours", -1, (side, OUR_SIDE, PLACES))

    def test_theirs(self):
        for side in (OURS, OUR_SIDE, THEIRS[:1] + (THEIRS[1][1:],), None, tree(a=1, b=tree(c=2, d=1), e=5)):
            self.no_paper("theirs", -1, (OUR_SIDE, side, PLACES))
        self.no_paper("ours", -1, (tree(), None, ()), None, None, None)
        self.no_paper("theirs", -1, (None, tree(), ()), None, None, None)

    def test_the_first_of_these(self):
        self.no_paper("shape", -1, (OURS, 1, (("zz",),)))
        self.no_paper("clash", 0, (None, None, (("zz",),)))
        self.no_paper("lacks", 1, (None, None, PLACES[:1]))
        self.no_paper("ours", -1, (None, None, PLACES))

    def test_many(self):
        source = random.Random(58)
        seen = {"lets": 0, "clash": 0, "lacks": 0, "ours": 0, "theirs": 0}
        for _ in range(1500):
            three = three_near(source)
            told = joined(*three)
            self.lets(len(told[2]), told, *three)
            other = joined(*[source.choice((document, three_near(source)[1])) for document in three])
            places = list(source.choice((told, told, other))[2])
            if places and source.randrange(2):
                places[source.randrange(len(places))] = source.choice(places + [("a",), ()])
            thing = (source.choice((told, other))[0], source.choice((told, other))[1], tuple(places))
            seen[self.judges(three, told, thing)] += 1
        self.assertGreater(min(seen.values()), 20, seen)

    def judges(self, three, told, thing):
        """What any triple by kind is refused by; told is the word."""
        places, clashes = list(thing[2]), list(told[2])
        wrong = [number for number, place in enumerate(places)
                 if place not in clashes or (number > 0 and not places[number - 1] < place)]
        lacking = [number for number, place in enumerate(clashes) if place not in places]
        unlike = [shape_of(one) != shape_of(other) for one, other in zip(thing, told)]
        for word, number in ([("clash", wrong[0])] if wrong else []) + ([("lacks", lacking[0])] if lacking else []) + \
                ([("ours", -1)] if unlike[0] else []) + ([("theirs", -1)] if unlike[1] else []):
            self.no_paper(word, number, thing, *three)
            return word
        self.lets(len(clashes), thing, *three)
        return "lets"
