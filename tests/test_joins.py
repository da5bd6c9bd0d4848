"""[54], [55], [56], [57]: DOCUMENTS, rows and what STANDS of two sides JOINED over a base."""

import random

from pathfolios.joins import joined, joined_rows, joined_stands
from pathfolios.leading import led_all
from pathfolios.standing import is_fit
from tests.checks import Checks, at, refusal_of, row, tree
from tests.makers import a_document, a_value, shape_of
from tests.pasts import NAMES, an_index, some_shapes
from tests.plainjoins import are_alike, plain_joined, plain_joined_rows, plain_joined_stands
from tests.plainly import plain_view

ONE, TWO, OTHER = tree(a=1), tree(a=2), tree(a=True)


def turned(source, value, depth=3):
    """A VALUE near to another one."""
    if not isinstance(value, tuple) or value[0] == "row" or depth == 0:
        return value if source.randrange(3) else a_value(source, 2)
    fields = dict(value[1])
    for word in list(fields):
        if source.randrange(3) == 0:
            fields[word] = turned(source, fields[word], depth - 1)
        if source.randrange(9) == 0:
            del fields[word]
    if source.randrange(3) == 0:
        fields[source.choice("abcde")] = a_value(source, 2)
    return ("tree", tuple(sorted(fields.items(), key=lambda pair: pair[0])))


def three_near(source):
    base = a_document(source)
    three = [base, turned(source, base), turned(source, base)]
    return [None if source.randrange(9) == 0 else document for document in three]


def three_small(source):
    """Three DOCUMENTS of few fields with few NUMBERS, each perhaps None, that are often like one another."""
    three = []
    for _ in range(3):
        fields = {word: source.randrange(14) for word in source.sample("ab", source.randrange(1, 3))}
        like = three and source.randrange(2) == 0
        three.append(source.choice(three) if like else source.choice((None, tree(**fields), tree(**fields))))
    return three


class Joined(Checks):
    def joins(self, base, ours, theirs, our_side, their_side, *places):
        self.told((our_side, their_side, places), joined, base, ours, theirs)
        self.told((their_side, our_side, places), joined, base, theirs, ours)

    def alike(self, base, ours, theirs, side):
        self.joins(base, ours, theirs, side, side)

    def test_ours_is_like_theirs(self):
        for base in (None, ONE, TWO, OTHER, tree()):
            for side in (None, ONE, tree(), tree(b=tree(c=row(1, "x")))):
                self.alike(base, side, side, side)

    def test_the_base_is_like_one_of_both(self):
        for base in (ONE, tree(), tree(b=tree(c=1))):
            for other in (TWO, OTHER, tree(b=2), tree(b=tree()), None):
                self.alike(base, base, other, other)
                self.alike(base, other, base, other)
        self.alike(None, None, ONE, ONE)

    def test_missing_ones(self):
        self.alike(None, None, None, None)
        self.alike(ONE, None, None, None)
        self.alike(ONE, None, ONE, None)
        self.joins(ONE, None, TWO, None, TWO, ())
        self.joins(None, ONE, TWO, ONE, TWO, ("a",))
        self.alike(None, ONE, tree(b=1), tree(a=1, b=1))
        self.joins(ONE, None, tree(), None, tree(), ())

    def test_fields_that_are_new(self):
        self.alike(ONE, tree(a=1, b=2), ONE, tree(a=1, b=2))
        self.alike(ONE, tree(a=1, b=2), tree(a=1, c=3), tree(a=1, b=2, c=3))
        self.alike(ONE, tree(a=1, b=2), tree(a=1, b=2, c=3), tree(a=1, b=2, c=3))
        self.joins(ONE, tree(a=1, b=2), tree(a=1, b=3), tree(a=1, b=2), tree(a=1, b=3), ("b",))
        self.joins(ONE, tree(a=1, b=1), tree(a=1, b=True), tree(a=1, b=1), tree(a=1, b=True), ("b",))

    def test_fields_that_are_gone(self):
        base = tree(a=1, b=2, c=3)
        self.alike(base, tree(b=2, c=3), base, tree(b=2, c=3))
        self.alike(base, tree(b=2, c=3), tree(a=1, b=2), tree(b=2))
        self.alike(base, tree(b=2, c=3), tree(b=2), tree(b=2))
        self.alike(base, tree(b=2, c=3), tree(a=1, b=2, c=4), tree(b=2, c=4))
        self.joins(base, tree(b=2, c=3), tree(a=9, b=2, c=3), tree(b=2, c=3), tree(a=9, b=2, c=3), ("a",))
        self.alike(base, tree(b=2), tree(a=1), tree())

    def test_fields_that_turned(self):
        base = tree(a=1, b=2, c=3)
        self.alike(base, tree(a=7, b=2, c=3), tree(a=1, b=8, c=3), tree(a=7, b=8, c=3))
        self.alike(base, tree(a=7, b=2, c=3), tree(a=7, b=8, c=3), tree(a=7, b=8, c=3))
        self.joins(base, tree(a=7, b=2, c=9), tree(a=8, b=5, c=3), tree(a=7, b=5, c=9), tree(a=8, b=5, c=9), ("a",))

    def test_trees_within_trees(self):
        base = tree(a=tree(b=tree(c=1, d=2), e=3), k=1)
        ours = tree(a=tree(b=tree(c=7, d=2), e=3), k=1)
        theirs = tree(a=tree(b=tree(c=1), e=4), k=1)
        self.alike(base, ours, theirs, tree(a=tree(b=tree(c=7), e=4), k=1))
        theirs = tree(a=tree(b=tree(c=8, d=5), e=4), k=2)
        self.joins(base, ours, theirs, tree(a=tree(b=tree(c=7, d=5), e=4), k=2), theirs, ("a", "b", "c"))

    def test_the_base_is_no_tree(self):
        for held in (1, row(), row(1, 2), "x", True):
            base = tree(k=held)
            self.alike(base, tree(k=tree(a=1)), tree(k=tree(b=2)), tree(k=tree(a=1, b=2)))
            self.joins(base, tree(k=tree(a=1)), tree(k=tree(a=2)), tree(k=tree(a=1)), tree(k=tree(a=2)), ("k", "a"))
        self.alike(tree(), tree(k=tree(a=1)), tree(k=tree(b=2)), tree(k=tree(a=1, b=2)))

    def test_a_tree_against_a_row(self):
        for one, other in ((tree(a=1), row(1)), (tree(), row()), (row(1), row(2)), (1, 2), (1, True), ("", False),
                           (tree(a=1), 1), (row(1), row(True)), (row(tree(a=1)), row(tree(a=2)))):
            self.joins(tree(k=0), tree(k=one), tree(k=other), tree(k=one), tree(k=other), ("k",))

    def test_a_truth_beside_a_number_is_unlike(self):
        self.alike(ONE, ONE, OTHER, OTHER)
        self.alike(OTHER, ONE, OTHER, ONE)
        self.joins(TWO, ONE, OTHER, ONE, OTHER, ("a",))
        self.alike(tree(a=row(1)), tree(a=row(True)), tree(a=row(1)), tree(a=row(True)))

    def test_places_rise(self):
        base = tree(a=tree(b=0, z=0), b=0, k=tree(c=0))
        ours = tree(a=tree(b=1, z=1), b=1, k=tree(c=1))
        theirs = tree(a=tree(b=2, z=2), b=2, k=row())
        self.joins(base, ours, theirs, ours, theirs, ("a", "b"), ("a", "z"), ("b",), ("k",))

    def test_many(self):
        source = random.Random(54)
        seen = {"clash": 0, "join": 0, "deep": 0}
        for _ in range(2000):
            base, ours, theirs = three_near(source)
            our_side, their_side, places = plain_joined(base, ours, theirs)
            self.joins(base, ours, theirs, our_side, their_side, *places)
            if not places:
                self.assertTrue(are_alike(our_side, their_side))
            self.keeps_turnings(base, ours, theirs)
            seen["clash"] += len(places) > 0
            seen["join"] += not places and not are_alike(our_side, ours) and not are_alike(our_side, theirs)
            seen["deep"] += any([len(place) > 1 for place in places])
        self.assertGreater(min(seen.values()), 25, seen)

    def keeps_turnings(self, base, ours, theirs):
        """[57]: what a side has at a PLACE that CLASHES is its own; what one alone turned is on both sides."""
        our_side, their_side, places = joined(base, ours, theirs)
        for place in places:
            self.assertEqual(shape_of(field_at(our_side, place)), shape_of(field_at(ours, place)))
            self.assertEqual(shape_of(field_at(their_side, place)), shape_of(field_at(theirs, place)))
        for place in all_places(base) + all_places(ours) + all_places(theirs):
            if [clash for clash in places if place[:len(clash)] == clash]:
                continue
            b, o, t = [shape_of(field_at(document, place)) for document in (base, ours, theirs)]
            if b == o or b == t:
                told = shape_of(field_at(ours if b == t else theirs, place))
                within = [clash for clash in places if clash[:len(place)] == place]
                self.assertEqual(within, [])
                self.assertEqual(shape_of(field_at(our_side, place)), told)
                self.assertEqual(shape_of(field_at(their_side, place)), told)


def field_at(document, place):
    for word in place:
        if not isinstance(document, tuple) or document[0] != "tree":
            return None
        document = dict(document[1]).get(word)
    return document


def all_places(document):
    if not isinstance(document, tuple) or document[0] != "tree":
        return []
    return [(word, *place) for word, held in document[1] for place in [()] + all_places(held)]


class Rows(Checks):
    def joins(self, base, ours, theirs, our_side, their_side, *clashes):
        self.told((our_side, their_side, clashes), joined_rows, base, ours, theirs)
        self.told((their_side, our_side, clashes), joined_rows, base, theirs, ours)

    def test_no_rows(self):
        self.joins((), (), (), (), ())

    def test_ids_on_one_side_alone(self):
        self.joins((), (("a", ONE),), (("b", TWO),), (("a", ONE), ("b", TWO)), (("a", ONE), ("b", TWO)))
        self.joins((("c", OTHER),), (("b", ONE), ("c", OTHER)), (("a", TWO), ("c", OTHER)),
                   (("a", TWO), ("b", ONE), ("c", OTHER)), (("a", TWO), ("b", ONE), ("c", OTHER)))
        self.joins((), (("a", ONE),), (("a", TWO),), (("a", ONE),), (("a", TWO),), ("a", ("a",)))

    def test_ids_that_are_gone(self):
        base = (("a", ONE), ("b", TWO), ("c", OTHER))
        self.joins(base, base[:2], base, base[:2], base[:2])
        self.joins(base, base[:2], base[1:], base[1:2], base[1:2])
        self.joins(base, (), (), (), ())
        self.joins(base, base[1:], (("a", TWO),) + base[1:], base[1:], (("a", TWO),) + base[1:], ("a", ()))

    def test_clashes_of_several_ids(self):
        base = (("a", tree(a=0, b=0)), ("x", tree(k=0)))
        ours = (("a", tree(a=1, b=1)), ("b", tree(c=1)))
        theirs = (("a", tree(a=2, b=2)), ("b", tree(c=2)), ("x", tree(k=1)))
        self.joins(base, ours, theirs, ours, theirs, ("a", ("a",)), ("a", ("b",)), ("b", ("c",)), ("x", ()))

    def test_many(self):
        source = random.Random(55)
        for _ in range(800):
            three = [[], [], []]
            for holder in sorted(source.sample("abcdxyz", source.randrange(6))):
                for rows, document in zip(three, three_near(source)):
                    rows.extend([(holder, document)] if document is not None else [])
            base, ours, theirs = [tuple(rows) for rows in three]
            our_side, their_side, clashes = plain_joined_rows(base, ours, theirs)
            self.joins(base, ours, theirs, our_side, their_side, *clashes)
            if not clashes:
                self.assertTrue(are_alike(our_side, their_side))


BY = ("by", at("a"), True, None)
SHAPES = ((("move", "b", "a"),),)


def standing(*documents, indexes=(), shapes=SHAPES):
    return (documents, indexes, shapes)


class Stands(Checks):
    def joins(self, base, ours, theirs, our_side, their_side, *clashes):
        self.told((our_side, their_side, clashes), joined_stands, base, ours, theirs)
        self.told((their_side, our_side, clashes), joined_stands, base, theirs, ours)

    def test_nothing(self):
        for indexes, shapes in (((), ()), ((BY,), SHAPES)):
            void = ((), indexes, shapes)
            self.joins(void, void, void, void, void)

    def test_documents_of_elder_editions(self):
        base = standing(("x", tree(b=1), 0))
        ours = standing(("x", tree(a=1), 1))
        theirs = standing(("x", tree(b=2), 0), ("y", tree(b=3, c=1), 0))
        side = standing(("x", tree(a=2), 1), ("y", tree(a=3, c=1), 1))
        self.joins(base, ours, theirs, side, side)
        ours = standing(("x", tree(b=5), 0), ("z", tree(b=1), 1))
        self.joins(base, ours, theirs, standing(("x", tree(a=5), 1), ("y", tree(a=3, c=1), 1), ("z", tree(b=1), 1)),
                   standing(("x", tree(a=2), 1), ("y", tree(a=3, c=1), 1), ("z", tree(b=1), 1)), ("x", ("a",)))

    def test_indexes_and_shapes_stay(self):
        indexes = (BY, ("far", at("k"), False, ("there", at("a"))))
        three = [standing(*documents, indexes=indexes) for documents in ((), (("x", ONE, 1),), (("y", TWO, 1),))]
        side = standing(("x", ONE, 1), ("y", TWO, 1), indexes=indexes)
        self.joins(*three, side, side)

    def test_no_lead(self):
        good = standing(("x", ONE, 1))
        bad = {name: standing(("x", ONE, 1), (name, tree(a=1, b=1), 0)) for name in ("y", "yy", "z")}
        self.refused("NoLead", ("y", 0), joined_stands, bad["y"], good, good)
        self.refused("NoLead", ("y", 0), joined_stands, good, bad["y"], good)
        self.refused("NoLead", ("y", 0), joined_stands, good, good, bad["y"])
        self.refused("NoLead", ("z", 0), joined_stands, bad["z"], bad["yy"], bad["y"])
        self.refused("NoLead", ("yy", 0), joined_stands, good, bad["yy"], bad["y"])
        both = standing(("x", ONE, 1), ("yy", tree(a=1, b=1), 0), ("z", tree(a=1, b=1), 0))
        self.refused("NoLead", ("yy", 0), joined_stands, good, good, both)
        three = ((), ((("cut", "c"),), SHAPES[0]))
        for edition in (0, 1):
            late = ((("x", tree(a=1, b=1), edition),),) + three
            self.refused("NoLead", ("x", edition), joined_stands, ((),) + three, late, late)

    def test_no_lead_ahead_of_no_key(self):
        twice = standing(("x", ONE, 1), ("y", ONE, 1), indexes=(BY,))
        bad = standing(("z", tree(a=1, b=1), 0), indexes=(BY,))
        self.refused("NoLead", ("z", 0), joined_stands, twice, twice, bad)
        self.refused("NoKey", ("by", "y"), joined_stands, twice, twice, twice)

    def test_no_key_of_our_side_then_of_theirs(self):
        void = standing(indexes=(BY,))
        ours = standing(("x", ONE, 1), indexes=(BY,))
        theirs = standing(("y", ONE, 1), indexes=(BY,))
        self.refused("NoKey", ("by", "y"), joined_stands, void, ours, theirs)
        # One side alone isn't SOUND: what CLASHES is its own.
        base = standing(("x", TWO, 1), ("y", tree(a=3), 1), indexes=(BY,))
        ours = standing(("x", tree(a=5), 1), ("y", tree(a=3), 1), indexes=(BY,))
        theirs = standing(("x", tree(a=6), 1), ("y", tree(a=5), 1), indexes=(BY,))
        self.refused("NoKey", ("by", "y"), joined_stands, base, ours, theirs)
        self.refused("NoKey", ("by", "y"), joined_stands, base, theirs, ours)
        far = ("far", at("c"), True, None)
        three = [standing(("x", tree(a=number, c=number), 1), ("y", tree(a=8), 1), ("z", tree(c=9), 1),
                          indexes=(BY, far)) for number in (2, 8, 9)]
        self.refused("NoKey", ("by", "y"), joined_stands, *three)
        self.refused("NoKey", ("far", "z"), joined_stands, three[0], three[2], three[1])

    def test_many(self):
        source = random.Random(56)
        seen = {}
        for _ in range(900):
            shapes = source.choice(((), some_shapes(source, 1)))
            makers = source.choice(((three_near, three_small), (three_small,)))
            names = sorted(source.sample(NAMES, source.randrange(3)))
            indexes = tuple([source.choice((an_index(source, name), (name, at(source.choice("ab")), True, None)))
                             for name in names])
            three = [[], [], []]
            for holder in sorted(source.sample("abcxyz", source.randrange(7))):
                for documents, document in zip(three, source.choice(makers)(source)):
                    place = (holder, document, source.choice((len(shapes), source.randrange(len(shapes) + 1))))
                    documents.extend([place] if document is not None else [])
            base, ours, theirs = [(tuple(documents), indexes, shapes) for documents in three]
            self.does(plain_joined_stands, joined_stands, base, ours, theirs)
            refusal = refusal_of(joined_stands, base, ours, theirs)
            seen[refusal and refusal[0]] = seen.get(refusal and refusal[0], 0) + 1
            if refusal is None:
                self.sides(base, ours, theirs)
        self.assertGreater(min([seen.get(name, 0) for name in (None, "NoLead", "NoKey")]), 15, seen)

    def sides(self, base, ours, theirs):
        our_side, their_side, clashes = joined_stands(base, ours, theirs)
        self.told((their_side, our_side, clashes), joined_stands, base, theirs, ours)
        rows = plain_joined_rows(*[tuple(plain_view(stands).items()) for stands in (base, ours, theirs)])
        for side, told in zip((our_side, their_side), rows):
            self.assertTrue(is_fit(side))
            self.assertEqual(shape_of(tuple(plain_view(side).items())), shape_of(told))
            self.assertEqual(shape_of(led_all(side)), shape_of(side))
        if not clashes:
            self.assertTrue(are_alike(our_side, their_side))
