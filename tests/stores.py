"""What tests of a STORE ask: each deed and what it tells, each refusal, and that what is refused turns nothing."""

from pathfolios.store import Store
from tests.checks import Checks, at, tree
from tests.makers import shape_of
from tests.plainstore import deed_of

X, Y = ("put", "x", tree(a=1), 0), ("put", "y", tree(a=2), 0)
BY = ("index", "by", at("a"), True, None)
HAS = ("there", at("a"))
ALL = ("and", ())
PEOPLE = ("ann", "bo", "cy")
STRANGE_HOUSES = (-1, 3, 4, 10 ** 59, -10 ** 59)


def put(holder, edition=0, **fields):
    return ("put", holder, tree(**fields), edition)


def sets(word, value, test=None):
    """A CHANGE that sets a field."""
    return (test, (("set", at(word), value),))


def adds(word, number):
    return (None, (("add", at(word), number),))


def behind(*rows, many=3):
    """A STORE behind deeds."""
    store = Store(many)
    for row in rows:
        deed_of(store, row)
    return store


def led(*entries, sent=(1, 2), many=3, asker="ann"):
    """A STORE that house 0 LEADS, with an asker's ENTRIES written there and sent to others."""
    rows = [("stand", 0)] + [("write", asker, 0, entry) for entry in entries] + [("send", 0, other) for other in sent]
    return behind(*rows, many=many)


def all_told(store):
    """All that a STORE tells, but by asks: a text."""
    askers = [(asker, store.mark_of(asker), store.writes_of(asker), store.tale_of(asker)) for asker in PEOPLE]
    grown = [(name, store.branch_stands(name)) for name in store.branches()]
    told = [store.paper(), store.houses_text(), store.leaders(), askers, grown, store.floor(), store.log(), len(store),
            str(store), store.walks()]
    for house, (_, _, log, done) in enumerate(store.paper()):
        try:
            told.append(store.history_of(house))
        except ValueError as error:
            told.append((house, type(error).__name__))
    return shape_of(told)


class StoreCase(Checks):
    def deed(self, store, told, *row):
        """A deed tells this, and its row is noted."""
        log = store.log()
        self.told(told, lambda deed: deed_of(store, deed), row)
        self.assertEqual(shape_of(store.log()), shape_of(log + (row,)))
        self.assertEqual(len(store), len(log))

    def no_deed(self, store, name, fields, *row):
        """A deed is refused, and turns nothing."""
        ahead, kept = all_told(store), shape_of(store.facts())
        self.refused(name, fields, lambda deed: deed_of(store, deed), row)
        self.assertEqual(all_told(store), ahead)
        self.assertEqual(shape_of(store.facts()), kept)

    def no_turn(self, store, reason, *row):
        self.no_deed(store, "NoTurn", (reason,), *row)

    def no_house(self, store, *row):
        """A deed of a house is refused for each strange one in its place, which is told by None."""
        for house in STRANGE_HOUSES:
            self.no_deed(store, "NoHouse", (house,), *[house if part is None else part for part in row])

    def tells(self, told, store, word, *given, **named):
        """What is told without a deed: it notes and turns nothing."""
        ahead = all_told(store)
        self.told(told, lambda *parts, **more: getattr(store, word)(*parts, **more), *given, **named)
        self.assertEqual(all_told(store), ahead)

    def no_telling(self, name, fields, store, word, *given, **named):
        ahead = all_told(store)
        self.refused(name, fields, lambda *parts, **more: getattr(store, word)(*parts, **more), *given, **named)
        self.assertEqual(all_told(store), ahead)
