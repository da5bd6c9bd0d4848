"""[60] to [71] over long rows of deeds: against a second doing of them, and what is so of them whatever is done."""

import random

from pathfolios.errors import FolioError, LackError
from pathfolios.histories import is_right
from pathfolios.housechecker import lets_houses
from pathfolios.houses import Houses
from tests.checks import Checks, at, refusal_of, tree
from tests.makers import shape_of
from tests.plainhouses import PlainHouses, a_deed

ENTRIES = tuple([("put", name, tree(a=number), 0) for name in "abc" for number in (1, 2, True)]) + (
    ("gone", "a"), ("gone", "b"), ("index", "by", at("a"), True, None), ("bare", "by"),
    ("put", "d", tree(a=1), 1), ("shape", ()))


class OverDeeds(Checks):
    def test_like_a_second_doing(self):
        source = random.Random(60)
        seen = {}
        for number in range(60):
            many = 3 + number % 3
            houses, plain = Houses(many), PlainHouses(many)
            for _ in range(150):
                word, *given = a_deed(source, plain, ENTRIES)
                self.does_like(houses, plain, word, given, seen)
        for name in (None, ("NoTurn", "down"), ("NoTurn", "leads"), ("NoTurn", "other"), ("NoTurn", "parted"),
                     ("NoTurn", "up"), ("NoTurn", "same"), ("NoTurn", "term"), ("NoTurn", "few"), ("NoTurn", "own"),
                     "NoHouse", "NoId", "NoName", "NoMark", "NoKey"):
            self.assertGreater(seen.get(name, 0), 4, (name, seen))

    def does_like(self, houses, plain, word, given, seen):
        refusal = refusal_of(getattr(plain, word), *given)
        if refusal is None:
            # The plain one has done it: what it told is asked of a read that turns nothing, or done anew.
            seen[None] = seen.get(None, 0) + 1
        else:
            name = refusal[0] if refusal[0] != "NoTurn" else (refusal[0], refusal[1][0])
            seen[name] = seen.get(name, 0) + 1
            self.refused(*refusal, getattr(houses, word), *given)
            return self.tells_like(houses, plain)
        getattr(houses, word)(*given)
        return self.tells_like(houses, plain)

    def tells_like(self, houses, plain):
        many = range(plain.many)
        for word in ("is_up", "does_lead", "term_of", "done_of", "vote_of", "log_of"):
            for house in many:
                self.assertEqual(shape_of(getattr(houses, word)(house)), shape_of(getattr(plain, word)(house)), word)
        self.assertEqual([houses.is_linked(one, other) for one in many for other in many],
                         [plain.is_linked(one, other) for one in many for other in many])
        self.assertEqual(shape_of((houses.leaders(), len(houses), str(houses), houses.paper())),
                         shape_of((plain.leaders(), plain.length(), plain.text(), plain.paper())))

    def test_answers_like_a_second_doing(self):
        source = random.Random(600)
        for number in range(60):
            many = 3 + number % 3
            houses, plain = Houses(many), PlainHouses(many)
            for _ in range(100):
                word, *given = a_deed(source, plain, ENTRIES)
                answers = []
                for one in (plain, houses):
                    try:
                        answers.append(getattr(one, word)(*given))
                    except (FolioError, LackError) as error:
                        answers.append((type(error).__name__, vars(error)))
                self.assertEqual(shape_of(answers[1]), shape_of(answers[0]), word)

    def test_equal_just_where_all_is_the_same(self):
        source = random.Random(61)
        seen = {True: 0, False: 0}
        for _ in range(150):
            pairs = ((Houses(), PlainHouses()), (Houses(), PlainHouses()))
            for _ in range(25):
                word, *given = deed = a_deed(source, pairs[0][1], ENTRIES)
                doing = source.choice((pairs, pairs, pairs, pairs, pairs, pairs, pairs, pairs, pairs[:1], pairs[1:]))
                for houses, plain in doing:
                    self.assertEqual(refusal_of(getattr(houses, word), *given), refusal_of(getattr(plain, word), *given))
                so = shape_of(pairs[0][1].whole()) == shape_of(pairs[1][1].whole())
                self.assertIs(pairs[0][0] == pairs[1][0], so, deed)
                self.assertIs(pairs[0][0] != pairs[1][0], not so, deed)
                seen[so] += 1
        self.assertGreater(min(seen.values()), 200, seen)


class WhateverIsDone(Checks):
    def test_66(self):
        source = random.Random(66)
        for number in range(120):
            self.goes_on(source, 3 + number % 3)

    def goes_on(self, source, many):
        houses = Houses(many)
        # What is so once: who LED in a TERM, what is DONE at a number, in which TERM that was known first.
        led, done, votes, known = {}, {}, {}, {}
        for _ in range(120):
            ahead = [(houses.term_of(house), houses.done_of(house)) for house in range(many)]
            greatest = len(houses)
            word, *given = a_deed(source, as_plain(houses), ENTRIES)
            try:
                told = getattr(houses, word)(*given)
            except (FolioError, LackError):
                told = None
            if word == "latest" and told is not None:
                self.assertGreaterEqual(told[0], greatest)
            self.never_falls(houses, ahead, votes)
            self.one_leads_a_term(houses, led)
            self.stays_done(houses, done, known)
            self.logs_are_alike(houses)
            self.told(len(houses), lets_houses, houses.paper())

    def never_falls(self, houses, ahead, votes):
        for house, (term, done) in enumerate(ahead):
            self.assertGreaterEqual(houses.term_of(house), term)
            self.assertGreaterEqual(houses.done_of(house), done)
            vote = houses.vote_of(house)
            if vote is not None:
                self.assertEqual(votes.setdefault((house, houses.term_of(house)), vote), vote)

    def one_leads_a_term(self, houses, led):
        for house in houses.leaders():
            self.assertEqual(led.setdefault(houses.term_of(house), house), house)

    def stays_done(self, houses, done, known):
        for house in range(len(houses.paper())):
            log = houses.log_of(house)
            for number in range(houses.done_of(house)):
                pair = shape_of(log[number])
                self.assertEqual(done.setdefault(number, pair), pair)
                known.setdefault(number, houses.term_of(house))
        for house in houses.leaders():
            log = houses.log_of(house)
            for number, pair in done.items():
                if houses.term_of(house) > known[number]:
                    self.assertEqual(shape_of(log[number]), pair)

    def logs_are_alike(self, houses):
        logs = [houses.log_of(house) for house in range(len(houses.paper()))]
        for log in logs:
            self.assertTrue(is_right((0, ((), (), ()), tuple([entry for _, entry in log]))))
            for other in logs:
                like = [number for number, (pair, its) in enumerate(zip(log, other)) if pair[0] == its[0]]
                if like:
                    self.assertEqual(shape_of(log[:like[-1] + 1]), shape_of(other[:like[-1] + 1]))

    def test_no_send_rolls_back_what_is_done(self):
        source = random.Random(660)
        seen = {"rolled": 0, "greatest": 0}
        for number in range(250):
            houses = Houses(3 + number % 3)
            for _ in range(80):
                word, *given = a_deed(source, as_plain(houses), ENTRIES)
                paper = houses.paper()
                try:
                    told = getattr(houses, word)(*given)
                except (FolioError, LackError):
                    continue
                if word == "send" and told is not None and told[0]:
                    self.rolls_back(paper, given, told[0], seen)
        self.assertGreater(min(seen.values()), 40, seen)

    def rolls_back(self, paper, given, rolled, seen):
        """What a send from the first to the second of given may roll back, where the paper was so ahead of it."""
        seen["rolled"] += 1
        old = paper[given[1]][2]
        self.assertGreater(rolled[0][0], paper[given[1]][3])
        if paper[given[0]][0] == max([row[0] for row in paper]):
            done = [shape_of((number, pair)) for row in paper for number, pair in enumerate(row[2][:row[3]], 1)]
            for number, entry in rolled:
                self.assertEqual(shape_of(old[number - 1][1]), shape_of(entry))
                self.assertNotIn(shape_of((number, old[number - 1])), done)
            seen["greatest"] += 1

    def test_behind_a_write_and_sends_to_most_it_is_done(self):
        source = random.Random(661)
        seen = 0
        for number in range(200):
            houses = Houses(3 + number % 3)
            for _ in range(source.randrange(60)):
                word, *given = a_deed(source, as_plain(houses), ENTRIES)
                refusal_of(getattr(houses, word), *given)
            for house in houses.leaders():
                near = [other for other in range(3 + number % 3) if other != house and houses.is_up(other)
                        and houses.is_linked(house, other) and houses.term_of(other) <= houses.term_of(house)]
                if 2 * (1 + len(near)) > 3 + number % 3:
                    told = houses.write(house, ("put", "zz", tree(), 0))
                    for other in near:
                        houses.send(house, other)
                    self.assertEqual(houses.done_of(house), told)
                    seen += 1
        self.assertGreater(seen, 50)


def as_plain(houses):
    """What a_deed looks at."""
    plain = PlainHouses(len(houses.paper()))
    plain.leading = [houses.does_lead(house) for house in range(plain.many)]
    return plain
