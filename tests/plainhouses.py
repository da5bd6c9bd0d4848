"""What DOC.md tells of HOUSES, done once more over dicts, word by word as it is told."""

from pathfolios.errors import Behind, NoHouse, NoTurn
from tests.makers import shape_of
from tests.plainly import plain_let_in

NOTHING = ((), (), ())


class PlainHouses:
    """[60] to [70]; links is a set of pairs, holds a dict for each house, void where it doesn't LEAD."""

    def __init__(self, many=3):
        self.many = many
        self.up = [True] * many
        self.terms = [0] * many
        self.votes = [None] * many
        self.logs = [[] for _ in range(many)]
        self.dones = [0] * many
        self.leading = [False] * many
        self.holds = [{} for _ in range(many)]
        self.links = set([(one, other) for one in range(many) for other in range(many)])

    def there(self, *houses):
        for house in houses:
            if house not in range(self.many):
                raise NoHouse(house)

    def refuse(self, word, so):
        if so:
            raise NoTurn(word)

    def into(self, house, term):
        assert term > self.terms[house]
        self.terms[house], self.votes[house], self.leading[house], self.holds[house] = term, None, False, {}

    def near(self, house):
        return [other for other in range(self.many)
                if other != house and self.up[other] and (house, other) in self.links]

    def most(self, many):
        return many > self.many / 2

    def last_term(self, house):
        return self.logs[house][-1][0] if self.logs[house] else 0

    def is_up(self, house):
        self.there(house)
        return self.up[house]

    def does_lead(self, house):
        self.there(house)
        return self.leading[house]

    def is_linked(self, house, other):
        self.there(house, other)
        return (house, other) in self.links

    def term_of(self, house):
        self.there(house)
        return self.terms[house]

    def done_of(self, house):
        self.there(house)
        return self.dones[house]

    def vote_of(self, house):
        self.there(house)
        return self.votes[house]

    def log_of(self, house):
        self.there(house)
        return tuple(self.logs[house])

    def leaders(self):
        return tuple([house for house in range(self.many) if self.leading[house]])

    def length(self):
        return max(self.dones)

    def text(self):
        told = []
        for house in range(self.many):
            one = [str(part) for part in (self.terms[house], len(self.logs[house]), self.dones[house])]
            told.append(".".join(one) + "+" * self.leading[house] + "-" * (not self.up[house]))
        return " ".join(told)

    def paper(self):
        return tuple([(self.terms[house], self.votes[house], tuple(self.logs[house]), self.dones[house])
                      for house in range(self.many)])

    def stand(self, house):
        self.there(house)
        self.refuse("down", not self.up[house])
        near = self.near(house)
        term = self.terms[house] + 1
        above = [self.terms[other] for other in near if self.terms[other] > term]
        if above:
            self.into(house, max(above))
            return (max(above), ())
        self.into(house, term)
        self.votes[house] = house
        votes = {house}
        for other in near:
            if self.terms[other] < term:
                self.into(other, term)
            if self.votes[other] is None and self.terms[other] == term:
                mine, its = self.last_term(house), self.last_term(other)
                if mine > its or (mine == its and len(self.logs[house]) >= len(self.logs[other])):
                    self.votes[other] = house
                    votes.add(other)
        if self.most(len(votes)):
            self.leading[house] = True
            self.holds[house] = {other: 0 for other in range(self.many) if other != house}
        return (term, tuple(sorted(votes)))

    def standing(self, pairs):
        stands = NOTHING
        for _, entry in pairs:
            stands = plain_let_in(stands, entry)
        return stands

    def write(self, house, entry):
        self.there(house)
        self.refuse("down", not self.up[house])
        self.refuse("leads", not self.leading[house])
        plain_let_in(self.standing(self.logs[house]), entry)
        self.logs[house].append((self.terms[house], entry))
        return len(self.logs[house])

    def send(self, house, other):
        self.there(house, other)
        self.refuse("same", house == other)
        self.refuse("down", not self.up[house])
        self.refuse("leads", not self.leading[house])
        self.refuse("other", not self.up[other])
        self.refuse("parted", (house, other) not in self.links)
        if self.terms[other] > self.terms[house]:
            self.into(house, self.terms[other])
            return None
        if self.terms[other] < self.terms[house]:
            self.into(other, self.terms[house])
        old, self.logs[other] = self.logs[other], list(self.logs[house])
        alike = 0
        while alike < min(len(old), len(self.logs[house])) and shape_of(old[alike]) == shape_of(self.logs[house][alike]):
            alike += 1
        self.holds[house][other] = len(self.logs[house])
        for number in range(len(self.logs[house]), 0, -1):
            held = [other for other, much in self.holds[house].items() if much >= number]
            if self.logs[house][number - 1][0] == self.terms[house] and self.most(1 + len(held)):
                self.dones[house] = max(number, self.dones[house])
                break
        self.dones[other] = max(self.dones[other], self.dones[house])
        rolled = [(number, old[number - 1][1]) for number in range(alike + 1, len(old) + 1)]
        return (tuple(rolled), self.dones[house])

    def fall(self, house):
        self.there(house)
        self.refuse("down", not self.up[house])
        self.up[house], self.leading[house], self.holds[house] = False, False, {}

    def rise(self, house):
        self.there(house)
        self.refuse("up", self.up[house])
        self.up[house] = True

    def part(self, house, other):
        self.there(house, other)
        self.refuse("same", house == other)
        ahead = set(self.links)
        self.links -= {(house, other), (other, house)}
        return ahead != self.links

    def meet(self, house, other):
        self.there(house, other)
        self.refuse("same", house == other)
        ahead = set(self.links)
        self.links |= {(house, other), (other, house)}
        return ahead != self.links

    def read(self, house, *, mark=0):
        self.there(house)
        self.refuse("down", not self.up[house])
        if self.dones[house] < mark:
            raise Behind(self.dones[house])
        entries = tuple([entry for _, entry in self.logs[house]])[:self.dones[house]]
        return (self.dones[house], (0, NOTHING, entries))

    def latest(self, house):
        self.there(house)
        self.refuse("down", not self.up[house])
        self.refuse("leads", not self.leading[house])
        near = self.near(house)
        term = self.terms[house]
        self.refuse("term", [other for other in near if self.terms[other] > term])
        self.refuse("few", not self.most(len(near) + 1))
        self.refuse("own", not [own for own, _ in self.logs[house][:self.dones[house]] if own == term])
        for other in near:
            if self.terms[other] < term:
                self.into(other, term)
        return self.read(house)

    def whole(self):
        return (self.many, self.up, self.terms, self.votes, self.logs, self.dones, self.leading, self.holds,
                sorted(self.links))


def a_deed(source, plain, entries):
    """A row (name, arguments) of a deed at HOUSES, oftener one that can be done than not."""
    if source.randrange(12) == 0:
        return any_deed(source, plain, entries)
    houses = range(plain.many)
    leaders = plain.leaders()
    if not leaders:
        return (source.choice(("stand", "stand", "stand", "rise")), source.choice(houses))
    leader = source.choice(leaders)
    others = [house for house in houses if house != leader]
    word = source.choice(("write",) * 6 + ("send",) * 10 + ("latest",) * 2 + ("stand", "fall", "rise", "rise", "part",
                                                                            "part", "meet", "meet", "read"))
    if word == "write":
        return (word, leader, source.choice(entries))
    if word == "send":
        return (word, leader, source.choice(others))
    if word in ("part", "meet"):
        return (word, *source.choice((source.sample(houses, 2), [leader, source.choice(others)])))
    return (word, leader if word == "latest" else source.choice(houses))


def any_deed(source, plain, entries):
    """A row of any deed at any houses, strange ones, too."""
    word = source.choice(("stand", "write", "send", "fall", "rise", "part", "meet", "read", "latest"))
    houses = [source.choice((*range(plain.many), *range(plain.many), -1, plain.many)) for _ in range(2)]
    if word == "write":
        return (word, houses[0], source.choice(entries))
    return (word, *houses) if word in ("send", "part", "meet") else (word, houses[0])
