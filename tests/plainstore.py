"""What DOC.md tells of a STORE, done once more, deed by deed, over dicts and lists; what is refused is put back."""

import copy

from pathfolios.changing import changed
from pathfolios.errors import Behind, FolioError, LackError, NoId, NoMark, NoName
from tests.makers import a_change, shape_of
from tests.pasts import a_paper, an_entry
from tests.plainhouses import PlainHouses
from tests.plainjoins import plain_joined_stands
from tests.plainly import plain_let_in, plain_stands, plain_view

ASKERS = ("ann", "bo", "cy")
HOLDERS = ("a", "b", "c", "x")
BRANCHES = ("far", "near")


class PlainStore:
    """[76] to [87]; a deed is done by its row."""

    def __init__(self, many=3):
        self.houses = PlainHouses(many)
        self.askers = {}
        self.branches = {}
        self.floor = 0
        self.rows = []

    def do(self, row):
        """What a deed tells; where it is refused all is as it was."""
        ahead = copy.deepcopy(vars(self))
        word, *given = row
        try:
            told = getattr(self, "do_" + word, getattr(self.houses, word, None))(*given)
        except (FolioError, LackError):
            vars(self).update(ahead)
            raise
        self.rows.append(row)
        return told

    def book(self, asker):
        return self.askers.setdefault(asker, {"mark": 0, "writes": [], "tale": []})

    def claim_writing(self, house):
        self.houses.there(house)
        self.houses.refuse("down", not self.houses.up[house])
        self.houses.refuse("leads", not self.houses.leading[house])
        return self.houses.standing(self.houses.logs[house])

    def do_write(self, asker, house, entry):
        number = self.houses.write(house, entry)
        self.book(asker)["writes"].append((number, self.houses.terms[house], entry))
        return number

    def do_turn(self, asker, house, holder, change):
        stands = self.claim_writing(house)
        view = plain_view(stands)
        if holder not in view:
            raise NoId(holder)
        return self.do_write(asker, house, ("put", holder, changed(view[holder], change), len(stands[2])))

    def do_settle(self, asker, house):
        done, _ = self.houses.read(house)
        book = self.book(asker)
        due = [write for write in book["writes"] if write[0] <= done]
        book["writes"] = [write for write in book["writes"] if write[0] > done]
        sure = [write for write in due if shape_of(self.houses.logs[house][write[0] - 1]) == shape_of(write[1:])]
        lost = [write for write in due if write not in sure]
        for number, _, entry in sorted(sure, key=lambda write: write[0]):
            if number > book["mark"]:
                book["tale"].append(("write", entry))
                book["mark"] = number
        return tuple([tuple(sorted(set([write[0] for write in writes]))) for writes in (sure, lost)])

    def do_read(self, asker, house, holder):
        return self.tells(asker, holder, *self.houses.read(house, mark=self.book(asker)["mark"]))

    def do_latest(self, asker, house, holder):
        done, history = self.houses.latest(house)
        if done < self.book(asker)["mark"]:
            raise Behind(done)
        return self.tells(asker, holder, done, history)

    def tells(self, asker, holder, done, history):
        stands = plain_stands(history)[done]
        book = self.book(asker)
        book["mark"] = done
        book["tale"].append(("read", holder, {row[0]: row[1] for row in stands[0]}.get(holder)))
        return (done, plain_view(stands).get(holder))

    def do_forget(self, mark):
        if not self.floor <= mark <= min(self.houses.dones):
            raise NoMark(mark)
        self.floor = mark

    def do_branch(self, name, house):
        done, history = self.houses.read(house)
        self.houses.refuse("there", name in self.branches)
        self.branches[name] = [plain_stands(history)[done]] * 2

    def grown(self, name):
        if name not in self.branches:
            raise NoName(name)
        return self.branches[name]

    def do_on(self, name, entry):
        base, stands = self.grown(name)
        self.houses.refuse("kind", entry[0] not in ("put", "gone"))
        self.branches[name] = [base, plain_let_in(stands, entry)]

    def do_bring(self, asker, name, house):
        base, theirs = self.grown(name)
        ours = self.claim_writing(house)
        self.houses.refuse("shapes", shape_of(base[1:]) != shape_of(ours[1:]))
        our_side, their_side, clashes = plain_joined_stands(base, ours, theirs)
        view, side = plain_view(ours), plain_view(our_side)
        numbers = []
        for holder in sorted(set(view) | set(side)):
            if holder not in side:
                numbers.append(self.do_write(asker, house, ("gone", holder)))
            elif shape_of(side[holder]) != shape_of(view.get(holder)):
                numbers.append(self.do_write(asker, house, ("put", holder, side[holder], len(ours[2]))))
        del self.branches[name]
        held = plain_view(their_side)
        told = [(holder, held.get(holder)) for holder in sorted(set([clash[0] for clash in clashes]))]
        return (tuple(numbers), clashes, tuple(told))

    def history(self, house):
        """[81]: the HISTORY of a house that is up."""
        _, history = self.houses.read(house)
        return (self.floor, plain_stands(history)[self.floor], history[2][self.floor:])

    def whole(self):
        """All that is told of it: a text."""
        books = [(asker, self.askers.get(asker, {"mark": 0, "writes": [], "tale": []})) for asker in ASKERS]
        told = [(asker, book["mark"], tuple(book["writes"]), tuple(book["tale"])) for asker, book in books]
        branches = [(name, self.branches[name][1]) for name in sorted(self.branches)]
        return shape_of((self.houses.text(), self.houses.paper(), self.houses.leaders(), told, branches, self.floor,
                         (("store", self.houses.many), *self.rows)))


def whole_of(store):
    """All that a STORE tells, as PlainStore.whole does."""
    told = [(asker, store.mark_of(asker), store.writes_of(asker), store.tale_of(asker)) for asker in ASKERS]
    branches = [(name, store.branch_stands(name)) for name in store.branches()]
    return shape_of((store.houses_text(), store.paper(), store.leaders(), told, branches, store.floor(), store.log()))


def deed_of(store, row):
    """What a STORE tells of the deed of a row."""
    word, *given = row
    return getattr(store, {"on": "write_on"}.get(word, word))(*given)


def some_entry(source, stands):
    """An ENTRY, oftener a small "put" of few ids than not."""
    if source.randrange(3) == 0:
        unique = ("index", source.choice(("by", "n")), (("field", source.choice("abc")),), True, None)
        return source.choice((an_entry(source, stands), an_entry(source, stands), unique))
    fields = tuple([(word, source.choice((1, 2, True, "x", ("tree", (("k", source.randrange(3)),)))))
                    for word in sorted(source.sample("abc", source.randrange(1, 3)))])
    return ("put", source.choice(HOLDERS), ("tree", fields), len(stands[2]))


def a_row(source, plain):
    """The row of any deed at a PlainStore, oftener one that can be done than not."""
    houses = plain.houses
    numbers = list(range(houses.many))
    if source.randrange(25) == 0:
        numbers = [-1, houses.many, 0]
    leader = source.choice(houses.leaders() or numbers)
    house = source.choice(numbers)
    other = source.choice([number for number in range(houses.many) if number != leader])
    asker, holder = source.choice(ASKERS), source.choice(HOLDERS)
    name = source.choice(list(plain.branches) or BRANCHES)
    word = source.choice(("write",) * 5 + ("send",) * 8 + ("turn", "turn", "settle", "settle", "read", "read", "latest",
                         "forget", "branch", "on", "on", "on", "bring", "stand", "fall", "rise", "rise", "part", "meet"))
    if word in ("on", "bring") and not plain.branches and source.randrange(9):
        word = "branch"
    if not houses.leaders() and source.randrange(3):
        word = source.choice(("stand", "stand", "rise", "meet"))
    up = 0 <= leader < houses.many and leader in houses.leaders()
    stands = houses.standing(houses.logs[leader]) if up else ((), (), ())
    held = [row[0] for row in stands[0] if source.randrange(9)] or HOLDERS
    rows = {
        "write": lambda: (word, asker, source.choice((leader, leader, leader, house)), some_entry(source, stands)),
        "turn": lambda: (word, asker, leader, *a_turn(source, stands, source.choice(held))),
        "send": lambda: (word, leader, source.choice((other, other, other, house))),
        "settle": lambda: (word, asker, house), "read": lambda: (word, asker, house, holder),
        "latest": lambda: (word, asker, leader, holder),
        "forget": lambda: (word, source.choice((plain.floor, min(houses.dones), min(houses.dones) + 1, plain.floor - 1))),
        "branch": lambda: (word, source.choice(BRANCHES), source.choice((leader, house))),
        "on": lambda: (word, name, some_entry(source, plain.branches[name][1] if name in plain.branches else stands)),
        "bring": lambda: (word, asker, name, leader),
        "part": lambda: (word, leader, other), "meet": lambda: (word, house, other),
    }
    return rows.get(word, lambda: (word, house))()


def a_turn(source, stands, holder):
    """An id and a CHANGE, oftener one that can be done than not."""
    document = dict(plain_view(stands)).get(holder) or a_paper(source)
    if source.randrange(3):
        return holder, a_change(source, document)
    return holder, (None, (("set", (("field", source.choice("abc")),), source.choice((1, 2, True, "x"))),))
