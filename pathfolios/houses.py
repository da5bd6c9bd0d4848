"""HOUSES: who LEADS, what each has in its LOG, what most have DONE, and what is read of them."""

from pathfolios.bounds import NOTHING
from pathfolios.errors import Behind, NoHouse, NoTurn
from pathfolios.histories import stands_at
from pathfolios.house import House, house_text
from pathfolios.papers import first_of
from pathfolios.standing import let_in
from pathfolios.values import is_like


class Houses:
    """Some houses, numbered from 0, each two of which are linked or parted."""

    def __init__(self, many=3):
        self.held = [House() for _ in range(many)]
        self.parted = {}

    def is_up(self, house):
        """Whether a house is up; or NoHouse."""
        return self.house_at(house).up

    def does_lead(self, house):
        """Whether a house LEADS; or NoHouse."""
        return self.house_at(house).leads

    def is_linked(self, house, other):
        """Whether two houses are linked, which one and itself are; or NoHouse."""
        self.house_at(house)
        self.house_at(other)
        return pair_of(house, other) not in self.parted

    def term_of(self, house):
        """The TERM of a house; or NoHouse."""
        return self.house_at(house).term

    def done_of(self, house):
        """The DONE of a house; or NoHouse."""
        return self.house_at(house).known

    def vote_of(self, house):
        """The VOTE of a house; or NoHouse."""
        return self.house_at(house).vote

    def log_of(self, house):
        """The LOG of a house; or NoHouse."""
        return self.house_at(house).pairs

    def leaders(self):
        """All houses that LEAD: a rising tuple."""
        return tuple([number for number, one in enumerate(self.held) if one.leads])

    def paper(self):
        """The HOUSE PAPER."""
        return tuple([(one.term, one.vote, one.pairs, one.known) for one in self.held])

    def stand(self, house):
        """Stands to LEAD: a pair of the TERM and of who voted; or NoHouse, NoTurn."""
        one = self.house_up(house)
        near = self.neighbours(house)
        term = one.term + 1
        greatest = max([self.held[other].term for other in near], default=0)
        if greatest > term:
            one.come_into(greatest)
            return (greatest, ())
        one.come_into(term)
        one.vote = house
        votes = [house] + self.ask_votes(house, near)
        if self.are_most(len(votes)):
            one.lead([other for other in range(len(self.held)) if other != house])
        return (term, tuple(sorted(votes)))

    def ask_votes(self, house, near):
        """Its NEIGHBOURS come INTO the TERM of a house that stands: a list of those that vote for it."""
        one = self.held[house]
        votes = []
        for other in near:
            voter = self.held[other]
            voter.come_up_to(one.term)
            if voter.vote is None and one.rank() >= voter.rank():
                voter.vote = house
                votes.append(other)
        return votes

    def write(self, house, entry):
        """Writes an ENTRY: the number of its pair; or NoHouse, NoTurn, or refused as it isn't LET IN."""
        let_in(self.stands_to_write(house), entry)
        one = self.held[house]
        one.pairs = one.pairs + ((one.term, entry),)
        return len(one.pairs)

    def send(self, house, other):
        """Sends the LOG: a pair of what is rolled back and of DONE, None in a TERM that is over; or NoHouse, NoTurn."""
        self.claim_two(house, other)
        one = self.house_leading(house)
        its = self.held[other]
        if not its.up:
            raise NoTurn("other")
        if not self.is_linked(house, other):
            raise NoTurn("parted")
        if its.term > one.term:
            one.come_into(its.term)
            return None
        its.come_up_to(one.term)
        rolled = rolled_back(its.pairs, one.pairs)
        its.pairs = one.pairs
        one.holds[other] = len(one.pairs)
        one.know(self.most_hold(one))
        its.know(one.known)
        return (rolled, one.known)

    def fall(self, house):
        """Falls; or NoHouse, NoTurn."""
        one = self.house_up(house)
        one.up = False
        one.lead_no_more()

    def rise(self, house):
        """Rises; or NoHouse, NoTurn."""
        one = self.house_at(house)
        if one.up:
            raise NoTurn("up")
        one.up = True

    def part(self, house, other):
        """Parts two houses: whether that turned something; or NoHouse, NoTurn."""
        self.claim_two(house, other)
        were_linked = self.is_linked(house, other)
        self.parted[pair_of(house, other)] = True
        return were_linked

    def meet(self, house, other):
        """Links two houses: whether that turned something; or NoHouse, NoTurn."""
        self.claim_two(house, other)
        were_linked = self.is_linked(house, other)
        self.parted.pop(pair_of(house, other), None)
        return not were_linked

    def read(self, house, *, mark=0):
        """A pair of the DONE of a house and of the HISTORY up to it; or NoHouse, NoTurn, Behind."""
        one = self.house_up(house)
        if one.known < mark:
            raise Behind(one.known)
        return (one.known, history_by(one.pairs[:one.known]))

    def latest(self, house):
        """What a house that surely LEADS still reads; or NoHouse, NoTurn."""
        self.claim_latest(house)
        for other in self.neighbours(house):
            self.held[other].come_up_to(self.held[house].term)
        return self.read(house)

    def __len__(self):
        # How long a range is has to be asked, for a length is told here by len alone.
        return len(range(max([one.known for one in self.held])))

    def __str__(self):
        return " ".join([house_text(one) for one in self.held])

    def __eq__(self, other):
        return isinstance(other, Houses) and is_like(self.facts(), other.facts())

    def __ne__(self, other):
        return not self == other

    def house_at(self, house):
        """A house by its number; or NoHouse."""
        if house < 0 or house >= len(self.held):
            raise NoHouse(house)
        return self.held[house]

    def house_up(self, house):
        """A house that is up; or NoHouse, NoTurn."""
        one = self.house_at(house)
        if not one.up:
            raise NoTurn("down")
        return one

    def house_leading(self, house):
        """A house that LEADS; or NoHouse, NoTurn."""
        one = self.house_up(house)
        if not one.leads:
            raise NoTurn("leads")
        return one

    def claim_two(self, house, other):
        """Refuses two houses that aren't two."""
        self.house_at(house)
        self.house_at(other)
        if house == other:
            raise NoTurn("same")

    def claim_latest(self, house):
        """Refuses a house that can't tell what is latest."""
        one = self.house_leading(house)
        near = self.neighbours(house)
        if any([self.held[other].term > one.term for other in near]):
            raise NoTurn("term")
        if not self.are_most(1 + len(near)):
            raise NoTurn("few")
        if one.term not in [term for term, entry in one.pairs[:one.known]]:
            raise NoTurn("own")

    def neighbours(self, house):
        """A list that rises of the NEIGHBOURS of a house."""
        others = [other for other in range(len(self.held)) if other != house]
        return [other for other in others if self.held[other].up and self.is_linked(house, other)]

    def are_most(self, many):
        """Whether so many are MOST."""
        return 2 * many > len(self.held)

    def most_hold(self, one):
        """The greatest number of a pair of its own TERM that one that LEADS and others, together MOST, have; or 0."""
        numbers = [number + 1 for number, pair in enumerate(one.pairs) if pair[0] == one.term]
        held = [number for number in numbers if self.are_most(1 + how_many_hold(one, number))]
        return max(held, default=0)

    def stands_to_write(self, house):
        """What STANDS behind the whole LOG of a house that LEADS; or NoHouse, NoTurn."""
        return stands_at(history_by(self.house_leading(house).pairs))

    def facts(self):
        """All that is so of them: a tuple."""
        return (tuple([one.facts() for one in self.held]), tuple(sorted(self.parted)))

    def become(self, facts):
        """Of them is so from now on what was so as their facts were told."""
        houses, parted = facts
        for one, its in zip(self.held, houses):
            one.become(its)
        self.parted = {pair: True for pair in parted}


def pair_of(house, other):
    """The pair of two numbers of houses, the same whichever is the first."""
    return (min(house, other), max(house, other))


def history_by(pairs):
    """The HISTORY of the ENTRIES of the pairs of a LOG."""
    return (0, NOTHING, tuple([entry for term, entry in pairs]))


def how_many_hold(house, number):
    """How many others HOLD as much as this number or more."""
    return len([held for held in house.holds.values() if held >= number])


def rolled_back(pairs, news):
    """The pairs (number, ENTRY) of a LOG from the first number on at which a new LOG hasn't the same pair: a tuple."""
    first = first_of([number >= len(news) or not is_like(pair, news[number]) for number, pair in enumerate(pairs)])
    if first is None:
        return ()
    return tuple([(first + number + 1, entry) for number, (term, entry) in enumerate(pairs[first:])])
