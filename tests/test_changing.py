"""[6], [15], [16], [17]: CHANGES done whole, or not at all."""

import copy
import random
import unittest

from pathfolios.changing import changed
from pathfolios.errors import NoChange
from pathfolios.finding import found_in
from pathfolios.meeting import meets
from pathfolios.undoing import is_undoing, undoing_between, undone
from pathfolios.values import is_document
from tests.makers import a_change, a_deed, a_document, a_test, a_value, shape_of


def tree(**fields):
    return ("tree", tuple(sorted(fields.items())))


def row(*things):
    return ("row", things)


def path(*told):
    """A PATH: WORDS for "field", NUMBERS for "at", None for "each", pairs for "where"."""
    steps = []
    for step in told:
        if isinstance(step, str):
            steps.append(("field", step))
        elif step is None:
            steps.append(("each",))
        else:
            steps.append(("where",) + step if isinstance(step, tuple) else ("at", step))
    return tuple(steps)


class Case(unittest.TestCase):
    def leads(self, document, change, told):
        ahead = copy.deepcopy((document, change))
        for answer in (changed(document, change), changed(document, change, told=False)):
            self.assertEqual(shape_of(answer), shape_of(told))
        pair = changed(document, change, told=True)
        self.assertIs(type(pair), tuple)
        self.assertEqual(shape_of(pair), shape_of((told, undoing_between(told, document))))
        self.assertEqual(shape_of(undone(*pair)), shape_of(document))
        self.assertEqual(shape_of((document, change)), shape_of(ahead))

    def does(self, document, deed, told):
        self.leads(document, (None, (deed,)), told)

    def refused(self, document, change, word, at):
        ahead = copy.deepcopy((document, change))
        for told in (False, True):
            with self.assertRaises(NoChange) as caught:
                changed(document, change, told=told)
            self.assertEqual(shape_of((caught.exception.word, caught.exception.at)), shape_of((word, at)))
        self.assertEqual(shape_of((document, change)), shape_of(ahead))

    def fails(self, document, deed):
        """A DEED that can't be done, alone, ahead of, amid and behind others."""
        fine = ("set", path("zz"), 1)
        for number, deeds in ((0, (deed,)), (0, (deed, fine)), (1, (fine, deed, fine)), (2, (fine, fine, deed))):
            self.refused(document, (None, deeds), "none", number)


class Sets(Case):
    def test_field(self):
        self.does(tree(a=1), ("set", path("a"), 2), tree(a=2))
        self.does(tree(a=1), ("set", path("b"), row()), tree(a=1, b=row()))
        self.does(tree(b=1, d=2), ("set", path("a"), 0), tree(a=0, b=1, d=2))
        self.does(tree(b=1, d=2), ("set", path("c"), 0), tree(b=1, c=0, d=2))
        self.does(tree(), ("set", path("a"), tree()), tree(a=tree()))
        self.does(tree(a=tree(b=1)), ("set", path("a", "c"), True), tree(a=tree(b=1, c=True)))

    def test_what_was_like_it(self):
        self.does(tree(a=1), ("set", path("a"), 1), tree(a=1))
        self.does(tree(a=1), ("set", path("a"), True), tree(a=True))

    def test_field_of_several(self):
        ahead = tree(r=row(tree(a=1), 5, tree(), row(tree(a=1)), tree(b=2)))
        self.does(ahead, ("set", path("r", None, "a"), 9),
                  tree(r=row(tree(a=9), 5, tree(a=9), row(tree(a=1)), tree(a=9, b=2))))
        self.does(ahead, ("set", path("r", ("b", 2), "a"), 9),
                  tree(r=row(tree(a=1), 5, tree(), row(tree(a=1)), tree(a=9, b=2))))
        self.does(ahead, ("set", path("r", 0, "a"), 9), tree(r=row(tree(a=9), *ahead[1][0][1][1][1:])))

    def test_at(self):
        self.does(tree(r=row(1, 2, 3)), ("set", path("r", 1), "x"), tree(r=row(1, "x", 3)))
        self.does(tree(r=row(row(1, 2), 0, row(3), row(4, 5))), ("set", path("r", None, 1), 9),
                  tree(r=row(row(1, 9), 0, row(3), row(4, 9))))

    def test_each(self):
        self.does(tree(r=row(1, tree(), "x")), ("set", path("r", None), 0), tree(r=row(0, 0, 0)))
        self.does(tree(r=row(row(1, 2), tree(a=1), row(), row(3))), ("set", path("r", None, None), 9),
                  tree(r=row(row(9, 9), tree(a=1), row(), row(9))))

    def test_where(self):
        ahead = tree(r=row(tree(k=1), tree(k=True), 1, tree(k=1, m=2)))
        self.does(ahead, ("set", path("r", ("k", 1)), 0), tree(r=row(0, tree(k=True), 1, 0)))
        self.does(ahead, ("set", path("r", ("k", True)), 0), tree(r=row(tree(k=1), 0, 1, tree(k=1, m=2))))

    def test_where_looks_at_what_stands_ahead(self):
        ahead = tree(r=row(tree(k=1), tree(k=1)))
        self.does(ahead, ("set", path("r", ("k", 1), "k"), 2), tree(r=row(tree(k=2), tree(k=2))))

    def test_no_holder(self):
        document = tree(a=1, r=row(), t=tree(), s=row(1))
        for told in (path("a", "b"), path("b", "c"), path("r", "a"), path("r", 0), path("s", 1), path("r", None),
                     path("t", 0), path("t", None), path("t", ("k", 1)), path("s", ("k", 1)), path(0), path(None),
                     path(("a", 1)), path("a", 0), path("a", None), path("r", None, "a"), path("s", None, "a")):
            self.fails(document, ("set", told, 1))


class Unsets(Case):
    def test_field(self):
        self.does(tree(a=1, b=2), ("unset", path("a")), tree(b=2))
        self.does(tree(a=1), ("unset", path("a")), tree())
        self.does(tree(a=tree(b=1, c=2)), ("unset", path("a", "b")), tree(a=tree(c=2)))
        self.does(tree(r=row(tree(a=1), tree(b=1), 3, tree(a=2, b=2))), ("unset", path("r", None, "a")),
                  tree(r=row(tree(), tree(b=1), 3, tree(b=2))))

    def test_at(self):
        self.does(tree(r=row(1, 2, 3)), ("unset", path("r", 0)), tree(r=row(2, 3)))
        self.does(tree(r=row(1, 2, 3)), ("unset", path("r", 1)), tree(r=row(1, 3)))
        self.does(tree(r=row(row(1, 2), row(3), row(4, 5, 6))), ("unset", path("r", None, 1)),
                  tree(r=row(row(1), row(3), row(4, 6))))

    def test_each(self):
        self.does(tree(r=row(1, 2, 3)), ("unset", path("r", None)), tree(r=row()))
        self.does(tree(r=row(row(1, 2), tree(a=1), row())), ("unset", path("r", None, None)),
                  tree(r=row(row(), tree(a=1), row())))

    def test_several_things_of_a_row(self):
        ahead = tree(r=row(tree(k=1), 7, tree(k=1), tree(k=True), tree(k=1), 8))
        self.does(ahead, ("unset", path("r", ("k", 1))), tree(r=row(7, tree(k=True), 8)))

    def test_nothing_goes(self):
        document = tree(a=1, r=row(), t=tree(), s=row(1))
        for told in (path("b"), path("a", "b"), path("t", "a"), path("r", 0), path("s", 1), path("r", None),
                     path("s", ("k", 1)), path(0), path(None), path(("a", 1)), path("s", None, "a")):
            self.fails(document, ("unset", told))


class Adds(Case):
    def test_numbers(self):
        self.does(tree(a=1), ("add", path("a"), 2), tree(a=3))
        self.does(tree(a=1), ("add", path("a"), -2), tree(a=-1))
        self.does(tree(a=1), ("add", path("a"), 0), tree(a=1))
        self.does(tree(r=row(1, 2)), ("add", path("r", 1), 10 ** 30), tree(r=row(1, 2 + 10 ** 30)))
        self.does(tree(r=row(tree(k=1, n=1), tree(k=2, n=1))), ("add", path("r", ("k", 2), "n"), 4),
                  tree(r=row(tree(k=1, n=1), tree(k=2, n=5))))

    def test_what_is_otherwise_stays(self):
        self.does(tree(r=row(1, True, False, "", "1", row(1), tree(a=1), -1)), ("add", path("r", None), 1),
                  tree(r=row(2, True, False, "", "1", row(1), tree(a=1), 0)))

    def test_no_number(self):
        document = tree(a=True, r=row(False, "", row(1), tree(k=1)), s=row())
        for told in (path("a"), path("b"), path("r"), path("r", None), path("r", ("k", 1)), path("s", None), path(0),
                     path("r", 4)):
            self.fails(document, ("add", told, 1))
            self.fails(document, ("add", told, 0))


class PushesAndPulls(Case):
    def test_push(self):
        self.does(tree(r=row()), ("push", path("r"), 1), tree(r=row(1)))
        self.does(tree(r=row(1, 1)), ("push", path("r"), row(1)), tree(r=row(1, 1, row(1))))
        self.does(tree(r=row(row(), 1, tree(r=row()), row(2))), ("push", path("r", None), 9),
                  tree(r=row(row(9), 1, tree(r=row()), row(2, 9))))
        self.does(tree(r=row(row(), row())), ("push", path("r", 1), 9), tree(r=row(row(), row(9))))

    def test_pull(self):
        self.does(tree(r=row(1, 2, 1, True, row(1), 1)), ("pull", path("r"), 1), tree(r=row(2, True, row(1))))
        self.does(tree(r=row(1, 2, 1, True)), ("pull", path("r"), True), tree(r=row(1, 2, 1)))
        self.does(tree(r=row(row(1), row(True), tree())), ("pull", path("r"), row(1)), tree(r=row(row(True), tree())))
        self.does(tree(r=row(row(1, 2), 1, tree(a=1), row(2), row(1))), ("pull", path("r", None), 1),
                  tree(r=row(row(2), 1, tree(a=1), row(2), row())))

    def test_pull_of_nothing(self):
        for ahead in (tree(r=row()), tree(r=row(True, 2, row(1))), tree(r=row("1"))):
            self.does(ahead, ("pull", path("r"), 1), ahead)

    def test_no_row(self):
        document = tree(a=1, t=tree(k=row()), r=row(1, True, "", tree(k=1)), s=row())
        for told in (path("a"), path("b"), path("t"), path("r", None), path("r", 0), path("r", ("k", 1)),
                     path("s", None), path(None), path("r", 7)):
            self.fails(document, ("push", told, 1))
            self.fails(document, ("pull", told, 1))


class Renames(Case):
    def test_rename(self):
        self.does(tree(a=1), ("rename", path("a"), "b"), tree(b=1))
        self.does(tree(a=1, c=2), ("rename", path("a"), "d"), tree(c=2, d=1))
        self.does(tree(b=1, c=2), ("rename", path("c"), "a"), tree(a=2, b=1))
        self.does(tree(a=tree(b=1)), ("rename", path("a", "b"), "a"), tree(a=tree(a=1)))

    def test_what_is_otherwise_stays(self):
        self.does(tree(r=row(tree(a=1), tree(a=1, b=2), tree(b=3), tree(), 4, row(tree(a=1)), tree(a=5, c=6))),
                  ("rename", path("r", None, "a"), "b"),
                  tree(r=row(tree(b=1), tree(a=1, b=2), tree(b=3), tree(), 4, row(tree(a=1)), tree(b=5, c=6))))

    def test_the_other_field_is_there(self):
        self.fails(tree(a=1, b=2), ("rename", path("a"), "b"))
        self.fails(tree(a=1, b=1), ("rename", path("a"), "b"))
        self.fails(tree(r=row(tree(a=1, b=2), tree(b=3))), ("rename", path("r", None, "a"), "b"))

    def test_to_itself(self):
        self.fails(tree(a=1), ("rename", path("a"), "a"))

    def test_no_field(self):
        document = tree(a=1, r=row(), t=tree())
        for told in (path("b"), path("a", "b"), path("r", None, "a"), path("r", 0, "a"), path("t", "a"),
                     path("r", "a")):
            self.fails(document, ("rename", told, "c"))


class Whole(Case):
    def test_one_behind_the_other(self):
        self.leads(tree(), (None, (("set", path("a"), row()), ("push", path("a"), 1), ("push", path("a"), tree()),
                                   ("set", path("a", None, "b"), 2), ("add", path("a", None), 4))),
                   tree(a=row(5, tree(b=2))))
        self.leads(tree(a=1), (None, (("rename", path("a"), "b"), ("set", path("a"), 2), ("add", path("b"), 1))),
                   tree(a=2, b=2))
        self.leads(tree(r=row(1, 2, 3)), (None, (("unset", path("r", 0)), ("unset", path("r", 0)))), tree(r=row(3)))
        self.leads(tree(a=1), (None, (("set", path("b"), 1), ("unset", path("b")))), tree(a=1))

    def test_what_those_ahead_took_away(self):
        self.refused(tree(a=1), (None, (("unset", path("a")), ("unset", path("a")))), "none", 1)
        self.refused(tree(r=row(1)), (None, (("set", path("b"), 1), ("unset", path("r", None)),
                                             ("set", path("r", None), 1))), "none", 2)
        self.refused(tree(a=1), (None, (("rename", path("a"), "b"), ("add", path("a"), 1), ("unset", path("z")))),
                     "none", 1)

    def test_nested_things_of_one_holder(self):
        ahead = tree(a=tree(a=tree(a=1)), r=row(row(row(1), 2), 3))
        self.does(ahead, ("set", path("a", "a"), 5), tree(a=tree(a=5), r=row(row(row(1), 2), 3)))
        self.does(ahead, ("set", path("r", None, None), 5), tree(a=tree(a=tree(a=1)), r=row(row(5, 5), 3)))
        self.does(ahead, ("set", path("r", None), row(row(0))),
                  tree(a=tree(a=tree(a=1)), r=row(row(row(0)), row(row(0)))))

    def test_met(self):
        document = tree(a=1)
        self.leads(document, (("like", path("a"), 1), (("set", path("b"), 2),)), tree(a=1, b=2))
        self.leads(document, (("and", ()), (("unset", path("a")),)), tree())
        self.leads(document, (("not", ("there", path("b"))), (("set", path("b"), 2), ("unset", path("a")))), tree(b=2))

    def test_the_test_is_of_what_stood_ahead(self):
        self.leads(tree(a=1), (("like", path("a"), 1), (("set", path("a"), 2), ("add", path("a"), 1))), tree(a=3))
        self.refused(tree(a=1), (("like", path("a"), 2), (("set", path("a"), 2),)), "test", -1)

    def test_not_met(self):
        for test in (("like", path("a"), True), ("there", path("b")), ("or", ()), ("not", ("and", ()))):
            self.refused(tree(a=1), (test, (("set", path("b"), 2),)), "test", -1)
            self.refused(tree(a=1), (test, (("unset", path("z")),)), "test", -1)

    def test_met_and_not_done(self):
        self.refused(tree(a=1), (("there", path("a")), (("unset", path("z")),)), "none", 0)

    def test_told_by_name_alone(self):
        with self.assertRaises(TypeError):
            changed(tree(a=1), (None, (("unset", path("a")),)), True)

    def test_told_of_nothing_turned(self):
        change = (None, (("set", path("a"), 1),))
        self.assertEqual(changed(tree(a=1), change, told=True), (tree(a=1), ()))


def thawed(value):
    if not isinstance(value, tuple):
        return value
    if value[0] == "row":
        return [thawed(thing) for thing in value[1]]
    return {word: thawed(held) for word, held in value[1]}


def frozen(thing):
    if isinstance(thing, list):
        return ("row", tuple([frozen(part) for part in thing]))
    if isinstance(thing, dict):
        return ("tree", tuple([(word, frozen(thing[word])) for word in sorted(thing)]))
    return thing


def at_place(thing, place):
    for marker in place:
        thing = thing[marker]
    return thing


def by_places(document, deed):
    """A DEED done place by place at lists and dicts: the DOCUMENT behind it, or None where it can't be done."""
    word, told = deed[0], deed[1]
    stands = thawed(document)
    places = [place for place, _ in found_in(document, told)]
    holders = [at_place(stands, place) for place, _ in (found_in(document, told[:-1]) if told[1:] else (((), 0),))]
    done = 0
    if word == "set" and told[-1][0] == "field":
        for holder in [holder for holder in holders if isinstance(holder, dict)]:
            holder[told[-1][1]] = thawed(deed[2])
            done += 1
    elif word == "rename":
        for holder in [holder for holder in holders if isinstance(holder, dict)]:
            if told[-1][1] in holder and deed[2] not in holder:
                holder[deed[2]] = holder.pop(told[-1][1])
                done += 1
    else:
        for place in reversed(places):
            holder, marker = at_place(stands, place[:-1]), place[-1]
            held = holder[marker]
            if word == "set":
                holder[marker] = thawed(deed[2])
            elif word == "unset":
                del holder[marker]
            elif word == "add" and type(held) is int:
                holder[marker] = held + deed[2]
            elif word == "push" and type(held) is list:
                held.append(thawed(deed[2]))
            elif word == "pull" and type(held) is list:
                held[:] = [part for part in held if shape_of(frozen(part)) != shape_of(deed[2])]
            else:
                continue
            done += 1
    return frozen(stands) if done else None


class Made(Case):
    def test_deeds_place_by_place(self):
        source = random.Random(16)
        many = 0
        for _ in range(1500):
            document = a_document(source)
            deed = a_deed(source, document)
            told = by_places(document, deed)
            if told is None:
                self.refused(document, (None, (deed,)), "none", 0)
            else:
                self.does(document, deed, told)
                many += 1
        self.assertGreater(many, 500)

    def test_changes_deed_by_deed(self):
        source = random.Random(17)
        for _ in range(500):
            document = a_document(source)
            test, deeds = a_change(source, document)
            if test is not None and not meets(document, test):
                self.refused(document, (test, deeds), "test", -1)
                continue
            stands = document
            for number, deed in enumerate(deeds):
                stands = by_places(stands, deed)
                if stands is None:
                    self.refused(document, (test, deeds), "none", number)
                    break
            else:
                self.leads(document, (test, deeds), stands)

    def test_what_is_told_is_by_kind(self):
        source = random.Random(18)
        for _ in range(300):
            document = a_document(source)
            try:
                stands, undoing = changed(document, a_change(source, document), told=True)
            except NoChange:
                continue
            self.assertTrue(is_document(stands))
            self.assertTrue(is_undoing(undoing))

    def test_what_follows(self):
        source = random.Random(19)
        for _ in range(1500):
            document = a_document(source)
            deed = a_deed(source, document)
            word, told = deed[0], deed[1]
            try:
                stands = changed(document, (None, (deed,)))
            except NoChange:
                continue
            found = [held for _, held in found_in(stands, told)]
            free = "where" not in [step[0] for step in told]
            if word == "set" and free and told[-1][0] in ("field", "each"):
                self.assertEqual([shape_of(held) for held in found], [shape_of(deed[2])] * len(found))
            if word == "unset" and told[-1][0] != "at":
                self.assertEqual(found, [])
            if word == "pull":
                for held in found:
                    if isinstance(held, tuple) and held[0] == "row":
                        self.assertNotIn(shape_of(deed[2]), [shape_of(thing) for thing in held[1]])
            if word == "add" and free:
                back = changed(stands, (None, (("add", told, -deed[2]),)))
                self.assertEqual(shape_of(back), shape_of(document))

    def test_tests_of_made_documents(self):
        source = random.Random(20)
        for _ in range(300):
            document = a_document(source)
            test = a_test(source, document)
            change = (test, (("set", path("zz"), a_value(source)),))
            if meets(document, test):
                self.leads(document, change, by_places(document, change[1][0]))
            else:
                self.refused(document, change, "test", -1)


if __name__ == "__main__":
    unittest.main()
