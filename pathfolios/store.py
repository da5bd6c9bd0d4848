"""The STORE: HOUSES, askers, branches and a FLOOR, and the LOG of all deeds done at them."""

from pathfolios.asks import asked_all
from pathfolios.bringing import clashing, entries_to
from pathfolios.changing import changed
from pathfolios.doing import do_deed
from pathfolios.errors import Behind, FolioError, LackError, NoId, NoMark, NoName, NoStep, NoTurn
from pathfolios.histories import forgotten, stands_at
from pathfolios.houses import Houses
from pathfolios.joins import joined_stands
from pathfolios.keys import rows_of
from pathfolios.leading import view_of
from pathfolios.planchecker import lets_plan
from pathfolios.plans import asked_by
from pathfolios.rowtexts import log_lines
from pathfolios.standing import documents_of, let_in
from pathfolios.streams import stream
from pathfolios.values import is_like

# MARK, WRITES and TALE of an asker of which no deed has told yet.
NEW_ASKER = (0, (), ())


class Store:
    """What is told, and done deed by deed; what a deed that is refused would have turned stays as it was."""

    def __init__(self, many=3):
        self.many = many
        self.houses = Houses(many)
        self.askers = {}
        self.grown = {}
        self.ground = 0
        self.trail = []
        # What was so ahead of the first deed, and behind each.
        self.pasts = [self.facts()]
        self.going = 0

    def paper(self):
        """The HOUSE PAPER."""
        return self.houses.paper()

    def houses_text(self):
        """The HOUSES as a text."""
        return str(self.houses)

    def leaders(self):
        """All houses that LEAD: a rising tuple."""
        return self.houses.leaders()

    def stand(self, house):
        """A house stands to LEAD: as HOUSES tell or refuse."""
        return self.noted(("stand", house), self.houses.stand(house))

    def send(self, house, other):
        """A house sends its LOG to another one: as HOUSES tell or refuse."""
        return self.noted(("send", house, other), self.houses.send(house, other))

    def fall(self, house):
        """A house falls: as HOUSES tell or refuse."""
        return self.noted(("fall", house), self.houses.fall(house))

    def rise(self, house):
        """A house rises: as HOUSES tell or refuse."""
        return self.noted(("rise", house), self.houses.rise(house))

    def part(self, house, other):
        """Two houses are parted: as HOUSES tell or refuse."""
        return self.noted(("part", house, other), self.houses.part(house, other))

    def meet(self, house, other):
        """Two houses are linked: as HOUSES tell or refuse."""
        return self.noted(("meet", house, other), self.houses.meet(house, other))

    def write(self, asker, house, entry):
        """An asker writes an ENTRY at a house: its number; or as HOUSES refuse."""
        numbers = self.write_all(asker, house, [entry])
        return self.noted(("write", asker, house, entry), numbers[0])

    def turn(self, asker, house, holder, change):
        """An asker writes the document of an id CHANGED: its number; or NoHouse, NoTurn, NoId, NoChange, NoKey."""
        stands = self.houses.stands_to_write(house)
        view = dict(view_of(stands))
        if holder not in view:
            raise NoId(holder)
        entry = ("put", holder, changed(view[holder], change), len(stands[2]))
        numbers = self.write_all(asker, house, [entry])
        return self.noted(("turn", asker, house, holder, change), numbers[0])

    def settle(self, asker, house):
        """What of an asker's WRITES is SURE and what LOST by a house's DONE: tuples of numbers; or NoHouse, NoTurn."""
        done, _ = self.houses.read(house)
        pairs = self.houses.log_of(house)
        mark, writes, tale = self.asker_at(asker)
        due = [write for write in writes if write[0] <= done]
        # Of one number one TERM at most is the pair's: no number is SURE twice.
        sure = sorted([write for write in due if is_like(pairs[write[0] - 1], write[1:])], key=lambda write: write[0])
        lost = [write for write in due if not is_like(pairs[write[0] - 1], write[1:])]
        news = [write for write in sure if write[0] > mark]
        told = tuple([("write", entry) for number, term, entry in news])
        left = tuple([write for write in writes if write[0] > done])
        self.askers[asker] = (max([mark] + [write[0] for write in news]), left, tale + told)
        return self.noted(("settle", asker, house), (numbers_of(sure), numbers_of(lost)))

    def read(self, asker, house, holder):
        """An asker reads an id at its MARK: a pair of DONE and the DOCUMENT or None; or NoHouse, NoTurn, Behind."""
        told = self.houses.read(house, mark=self.mark_of(asker))
        return self.noted(("read", asker, house, holder), self.told_of(asker, holder, told))

    def latest(self, asker, house, holder):
        """An asker reads what is latest of an id: a pair as of read; or NoHouse, NoTurn, Behind."""
        self.houses.claim_latest(house)
        done = self.houses.done_of(house)
        if done < self.mark_of(asker):
            raise Behind(done)
        told = self.houses.latest(house)
        return self.noted(("latest", asker, house, holder), self.told_of(asker, holder, told))

    def mark_of(self, asker):
        """The MARK of an asker."""
        return self.asker_at(asker)[0]

    def writes_of(self, asker):
        """The WRITES of an asker."""
        return self.asker_at(asker)[1]

    def tale_of(self, asker):
        """The TALE of an asker."""
        return self.asker_at(asker)[2]

    def history_of(self, house):
        """The HISTORY of a house from the FLOOR on; or NoHouse, NoTurn."""
        _, history = self.houses.read(house)
        return forgotten(history, self.ground)

    def ask(self, house, test, *, mark=None, plan=None, order=None):
        """What is ASKED by a TEST at a MARK of a house, through a PLAN if any; or NoHouse, NoTurn, NoMark, NoPaper."""
        stands = stands_at(self.history_of(house), mark=mark)
        if plan is None:
            return asked_all(stands, test, order=order)
        lets_plan(stands, test, plan)
        return asked_by(stands, test, plan, order=order)

    def rows_at(self, house, name, *, mark=None):
        """The ROWS of the INDEX of a name at a MARK of a house; or NoHouse, NoTurn, NoMark, NoName."""
        return rows_of(stands_at(self.history_of(house), mark=mark), name)

    def stream_at(self, house, test, *, since, upto=None, short=False):
        """The STREAM of a house by a TEST, or the SHORT one; or NoHouse, NoTurn, NoMark."""
        return stream(self.history_of(house), test, since=since, upto=upto, short=short)

    def forget(self, mark):
        """What is below a MARK is FORGOTTEN; or NoMark."""
        least = min([self.houses.done_of(house) for house in range(self.many)])
        if mark < self.ground or mark > least:
            raise NoMark(mark)
        self.ground = mark
        return self.noted(("forget", mark), None)

    def floor(self):
        """The FLOOR."""
        return self.ground

    def branch(self, name, house):
        """A BRANCH of a name begins at what STANDS at the LAST of a house; or NoHouse, NoTurn."""
        stands = stands_at(self.history_of(house))
        if name in self.grown:
            raise NoTurn("there")
        self.grown[name] = (stands, stands)
        return self.noted(("branch", name, house), None)

    def write_on(self, name, entry):
        """A "put" or a "gone" is written on a BRANCH; or NoName, NoTurn, or refused as it isn't LET IN."""
        base, stands = self.branch_at(name)
        if entry[0] != "put" and entry[0] != "gone":
            raise NoTurn("kind")
        self.grown[name] = (base, let_in(stands, entry))
        return self.noted(("on", name, entry), None)

    def bring(self, asker, name, house):
        """An asker writes what a BRANCH brings: numbers, CLASHES, their side of these; or refused as told."""
        base, theirs = self.branch_at(name)
        ours = self.houses.stands_to_write(house)
        if not is_like(base[1:], ours[1:]):
            raise NoTurn("shapes")
        our_side, their_side, clashes = joined_stands(base, ours, theirs)
        numbers = self.write_all(asker, house, entries_to(ours, our_side))
        del self.grown[name]
        return self.noted(("bring", asker, name, house), (numbers, clashes, clashing(their_side, clashes)))

    def branches(self):
        """The names of all BRANCHES: a rising tuple."""
        return tuple(sorted(self.grown))

    def branch_stands(self, name):
        """What STANDS on a BRANCH; or NoName."""
        return self.branch_at(name)[1]

    def log(self):
        """The LOG."""
        return (("store", self.many),) + tuple(self.trail)

    def undo(self):
        """Makes the last deed as if it had never been: its row; or NoStep."""
        if not self.trail:
            raise NoStep(0)
        row = self.trail[-1]
        self.go_back(len(self.trail) - 1)
        return row

    def do_all(self, deeds, *, keep=False):
        """Does the deeds of rows in one: how many; or as the first that is refused: then none stay, but with keep."""
        ahead = len(self.trail)
        self.going += 1
        try:
            for deed in deeds:
                do_deed(self, deed)
        except (FolioError, LackError):
            if not keep:
                self.go_back(ahead)
            raise
        finally:
            self.going -= 1
        return len(deeds)

    def walks(self):
        """How many rows of deeds are being done in one."""
        return self.going

    def __len__(self):
        return len(self.trail)

    def __str__(self):
        return " / ".join(log_lines(self.log()))

    def __eq__(self, other):
        return isinstance(other, Store) and is_like(self.log(), other.log())

    def __ne__(self, other):
        return not self == other

    def noted(self, row, told):
        """What a deed told, which is done: its row is noted in the LOG."""
        self.trail.append(row)
        self.pasts.append(self.facts())
        return told

    def facts(self):
        """All that is so but for the LOG: a tuple."""
        return (self.houses.facts(), tuple(self.askers.items()), tuple(self.grown.items()), self.ground)

    def go_back(self, many):
        """All is so again as it was behind so many deeds."""
        del self.trail[many:]
        del self.pasts[many + 1:]
        houses, askers, grown, self.ground = self.pasts[many]
        self.houses.become(houses)
        self.askers = dict(askers)
        self.grown = dict(grown)

    def asker_at(self, asker):
        """MARK, WRITES and TALE of an asker."""
        return self.askers.get(asker, NEW_ASKER)

    def branch_at(self, name):
        """A pair of the base of a BRANCH and of what STANDS on it; or NoName."""
        if name not in self.grown:
            raise NoName(name)
        return self.grown[name]

    def write_all(self, asker, house, entries):
        """Writes ENTRIES of an asker at a house: a tuple of their numbers; or as HOUSES refuse the first."""
        mark, writes, tale = self.asker_at(asker)
        numbers = []
        news = []
        for entry in entries:
            number = self.houses.write(house, entry)
            numbers.append(number)
            news.append((number, self.houses.term_of(house), entry))
        self.askers[asker] = (mark, writes + tuple(news), tale)
        return tuple(numbers)

    def told_of(self, asker, holder, told):
        """Notes in a TALE what an asker is told of an id: a pair of DONE and the DOCUMENT LED, or None."""
        done, history = told
        stands = stands_at(history)
        _, writes, tale = self.asker_at(asker)
        row = ("read", holder, documents_of(stands).get(holder))
        self.askers[asker] = (done, writes, tale + (row,))
        return (done, dict(view_of(stands)).get(holder))


def numbers_of(writes):
    """The numbers of WRITES: a rising tuple."""
    return tuple(sorted(set([number for number, term, entry in writes])))
