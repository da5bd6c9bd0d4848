"""[70], [71]: any thing looked at as a HOUSE PAPER."""

import random

from pathfolios.errors import FolioError, LackError
from pathfolios.housechecker import lets_houses
from pathfolios.houses import Houses
from tests.checks import Checks, refusal_of, row, tree
from tests.makers import NO_NUMBERS, ODD_THINGS, shape_of
from tests.plainhouses import a_deed
from tests.test_houses_over_deeds import ENTRIES, as_plain

A, B, C, D = [("put", name, tree(), 0) for name in "abcd"]
LOG = ((1, A), (1, B), (3, C))
ROW = (3, 0, LOG, 2)
PAPER = (ROW, (3, 0, LOG, 3), (3, 0, LOG, 1))


def plain_verdict(rows):
    """[70] of rows by kind, over lists of all faults: a pair (word, at), or the greatest DONE."""
    faults = []
    for h, (term, vote, log, done) in enumerate(rows):
        faults += [("vote", h)] if vote is not None and vote not in range(len(rows)) else []
        terms = [0] + [pair[0] for pair in log]
        faults += [("log", (h, n)) for n in range(1, len(terms)) if terms[n] < terms[n - 1] or terms[n] > term][:1]
        faults += [("done", h)] if done > len(log) else []
    if faults:
        return faults[0]
    for h in range(len(rows)):
        for i in range(h + 1, len(rows)):
            one, other = rows[h][2], rows[i][2]
            numbers = range(1, min(len(one), len(other)) + 1)
            same = {n: shape_of(one[n - 1]) == shape_of(other[n - 1]) for n in numbers}
            like = [n for n in numbers if one[n - 1][0] == other[n - 1][0]]
            faults += [("unlike", (h, i, n)) for n in numbers if like and n <= like[-1] and not same[n]][:1]
            faults += [("split", (h, i, n)) for n in numbers if n <= min(rows[h][3], rows[i][3]) and not same[n]][:1]
    for h, (_, _, log, done) in enumerate(rows):
        begin = [shape_of(pair) for pair in log[:done]]
        having = [other for other in rows if [shape_of(pair) for pair in other[2][:done]] == begin]
        faults += [("few", h)] if done > 0 and not len(having) > len(rows) / 2 else []
    return faults[0] if faults else max([done for _, _, _, done in rows])


class LetsHouses(Checks):
    def lets(self, done, thing):
        for _ in range(2):
            self.told(done, lets_houses, thing)

    def no_paper(self, word, at, thing):
        for _ in range(2):
            self.refused("NoPaper", (word, at), lets_houses, thing)

    def row(self, word, *given):
        """A row is refused by this word at each house, whatever is due behind it."""
        for h in range(3):
            for paper in (PAPER, (PAPER[0], (4, 1, ((4, D),), 1), PAPER[2]), (PAPER[0], PAPER[1], (9, 9, (), 9))):
                at = (h, given[1]) if word == "log" else h
                if h < 2 or paper is PAPER:
                    self.no_paper(word, at, paper[:h] + (given[0],) + paper[h + 1:])

    def test_papers(self):
        for many in (3, 4, 5):
            self.lets(0, Houses(many).paper())
            self.lets(3, (PAPER * 2)[:many])
            self.lets(0, ((0, None, (), 0),) * many)
        self.lets(3, PAPER)
        self.lets(0, ((10 ** 59, 2, (), 0),) * 3)

    def test_shape(self):
        for thing in ODD_THINGS + (list(PAPER), PAPER[:2], (), PAPER + PAPER, ROW, {}, "paper", 3, True, (ROW,) * 6,
                                   (ROW,) * 2, (ROW,)):
            self.no_paper("shape", -1, thing)
        for part in ODD_THINGS + (list(ROW), ROW[:3], ROW + (0,), (), (3, 0, list(LOG), 2), (3, 0, None, 2),
                                  (3, 0, 2, 2), (3, 0, LOG), {}, "abcd"):
            for number in range(3):
                self.no_paper("shape", -1, PAPER[:number] + (part,) + PAPER[number + 1:])

    def test_shape_of_each_part(self):
        for number in NO_NUMBERS + (-1, -10 ** 59):
            self.no_paper("shape", -1, PAPER[:2] + ((number, 0, (), 0),))
            self.no_paper("shape", -1, PAPER[:2] + ((3, 0, LOG, number),))
            self.no_paper("shape", -1, PAPER[:2] + ((3, 0, LOG[:2] + ((number, C),), 2),))
            if number is not None and not isinstance(number, int) or isinstance(number, bool):
                self.no_paper("shape", -1, PAPER[:2] + ((3, number, LOG, 2),))
        self.no_paper("shape", -1, PAPER[:2] + ((3, 0, ((0, A),), 0),))
        for entry in ODD_THINGS + ((1, A, B), ("gone",), ("put", "x", row(), 0), ("put", "x", tree(), -1),
                                   ("put", "x", tree(), True), ("gone", "X"), list(A), ("shape", [])):
            self.no_paper("shape", -1, PAPER[:2] + ((3, 0, LOG + ((3, entry),), 2),))
        for pair in ([3, C], (3,), (3, C, C), (), 3, C, None):
            self.no_paper("shape", -1, PAPER[:2] + ((3, 0, LOG + (pair,), 2),))

    def test_shape_ahead_of_all(self):
        self.no_paper("shape", -1, ((3, 9, LOG, 9), (0, 0, LOG, 4), (3, 0, LOG, True)))

    def test_vote(self):
        for vote in (-1, 3, 4, 10 ** 59, -10 ** 59):
            self.row("vote", (3, vote, LOG, 2))
            self.row("vote", (0, vote, LOG, 9))
        for vote in (0, 1, 2, None):
            self.lets(3, PAPER[:2] + ((3, vote, LOG, 2),))
        self.lets(3, PAPER + ((3, 3, LOG, 2),))
        self.no_paper("vote", 0, ((3, 4, LOG, 2),) + PAPER)
        self.lets(3, ((3, 4, LOG, 2),) + PAPER + PAPER[:1])

    def test_log(self):
        self.row("log", (2, 0, LOG, 2), 3)
        self.row("log", (0, 0, LOG, 9), 1)
        self.row("log", (3, 0, ((1, A), (3, B), (1, C)), 2), 3)
        self.row("log", (3, 0, ((2, A), (1, B), (4, C)), 2), 2)
        self.row("log", (3, 0, ((1, A), (4, B), (1, C)), 9), 2)
        self.lets(0, ((3, 0, ((1, A), (1, B), (2, C), (3, D)), 0),) * 3)

    def test_done(self):
        self.row("done", (3, 0, LOG, 4))
        self.row("done", (3, 0, (), 1))
        self.row("done", (3, 0, LOG, 10 ** 59))
        self.lets(3, (PAPER[1],) * 3)

    def test_row_by_row(self):
        self.no_paper("done", 0, ((3, 0, LOG, 4), (3, 9, LOG, 2), PAPER[2]))
        self.no_paper("log", (0, 3), ((2, 0, LOG, 4), (3, 9, LOG, 2), PAPER[2]))
        self.no_paper("vote", 1, (ROW, (2, 9, LOG, 4), (1, 9, LOG, 9)))

    def test_unlike(self):
        other = ((1, A), (1, D), (3, C))
        self.no_paper("unlike", (0, 1, 2), (ROW, (3, 0, other, 2), ROW))
        self.no_paper("unlike", (0, 2, 2), (ROW, ROW, (3, 0, other, 0)))
        self.no_paper("unlike", (1, 2, 2), ((3, 0, (), 0), ROW, (3, 0, other, 0)))
        self.no_paper("unlike", (0, 1, 1), ((3, 0, LOG, 0), (3, 0, ((2, A), (2, B), (3, C)), 0), ROW))
        self.no_paper("unlike", (0, 1, 3), ((3, 0, LOG, 0), (3, 0, LOG[:2] + ((3, D),), 0), ROW))
        # Behind the greatest number of like TERMS they may be unlike.
        self.lets(2, (ROW, (4, 0, LOG[:2] + ((4, D), (4, A)), 2), ROW))
        self.lets(0, ((3, 0, LOG, 0), (4, 0, ((2, A),), 0), (4, 0, ((4, D),), 0)))
        # A TERM that is like behind one that isn't.
        self.no_paper("unlike", (0, 1, 1), ((3, 0, ((1, A), (3, B)), 0), (3, 0, ((2, A), (3, B)), 0), (0, None, (), 0)))

    def test_split(self):
        four = ((4, D),)
        self.no_paper("split", (0, 1, 1), ((3, 0, LOG, 1), (4, 0, four, 1), PAPER[2]))
        self.no_paper("split", (1, 2, 3), ((3, 0, (), 0), (3, 0, LOG, 3), (4, 0, LOG[:2] + four, 3)))
        self.no_paper("few", 0, ((3, 0, LOG, 3), (4, 0, LOG[:2] + four, 2), (4, 0, LOG[:2] + four, 2)))
        self.no_paper("unlike", (0, 1, 1), ((3, 0, LOG, 1), (3, 0, ((1, D),), 1), PAPER[2]))

    def test_two_by_two(self):
        # Both "split" of 0 and 1 and "unlike" of 0 and 2, or of 1 and 2.
        one, other, third = (3, 0, LOG, 1), (4, 0, ((4, D),), 1), (4, 0, ((1, D),), 0)
        self.no_paper("split", (0, 1, 1), (one, other, third))
        self.no_paper("unlike", (0, 1, 1), (one, third, other))
        self.no_paper("split", (0, 2, 1), ((3, 0, LOG, 3), (3, 0, LOG, 3), other))

    def test_few(self):
        self.no_paper("few", 0, (ROW, (3, 0, (), 0), (3, 0, (), 0)))
        self.no_paper("few", 2, ((3, 0, (), 0), (3, 0, (), 0), ROW))
        self.no_paper("few", 1, ((3, 0, LOG, 2), (3, 0, LOG, 3), (3, 0, LOG[:2], 2)) + ((3, 0, (), 0),) * 2)
        self.lets(2, ((3, 0, LOG, 2), (3, 0, LOG, 2), (3, 0, LOG[:2], 2)) + ((3, 0, (), 0),) * 2)
        self.no_paper("few", 0, (ROW, ROW, (3, 0, (), 0), (3, 0, (), 0)))
        self.lets(2, (ROW, ROW, (3, 0, LOG, 0), (3, 0, (), 0)))
        self.lets(2, (ROW, (3, 0, LOG[:2], 0), (3, 0, (), 0)))

    def test_a_truth_beside_a_number(self):
        true, one = ((1, ("put", "x", tree(a=True), 0)),), ((1, ("put", "x", tree(a=1), 0)),)
        self.no_paper("unlike", (0, 1, 1), ((1, 0, true, 1), (1, 0, one, 1), (1, 0, one, 1)))
        other = ((2, ("put", "x", tree(a=1), 0)),)
        self.no_paper("split", (0, 1, 1), ((1, 0, true, 1), (2, 0, other, 1), (1, 0, true, 1)))
        self.no_paper("few", 0, ((1, 0, true, 1), (2, 0, other, 0), (2, 0, other, 0)))
        for paper in (((True, 0, (), 0),) * 3, ((1, True, (), 0),) * 3, ((1, 0, (), False),) * 3,
                      ((1, 0, ((True, A),), 0),) * 3):
            self.no_paper("shape", -1, paper)

    def test_own_papers_and_near_ones(self):
        source = random.Random(70)
        seen = {}
        for number in range(120):
            houses = Houses(3 + number % 3)
            for _ in range(60):
                word, *given = a_deed(source, as_plain(houses), ENTRIES)
                try:
                    getattr(houses, word)(*given)
                except (FolioError, LackError):
                    continue
            self.told(len(houses), lets_houses, houses.paper())
            for _ in range(30):
                self.near(houses.paper(), source, seen)
        self.assertEqual(set(seen), {"vote", "log", "done", "unlike", "split", "few", "lets"})
        self.assertGreater(min(seen.values()), 20, seen)

    def near(self, paper, source, seen):
        rows = [list(part) for part in paper]
        for _ in range(source.randrange(1, 3)):
            part = source.choice(rows)
            kind = source.randrange(4)
            if kind == 0:
                part[0] = max(0, part[0] + source.choice((-1, 1)))
            elif kind == 1:
                part[1] = source.choice((None, 0, 1, 4, 5, -1))
            elif kind == 2 and part[2]:
                log = list(part[2])
                place = source.randrange(len(log))
                log[place:place + 1] = source.choice(([], [(log[place][0] + source.choice((0, 1)), A)], log[place:][:2]))
                part[2] = tuple(log)
            else:
                part[3] = max(0, part[3] + source.choice((-1, 1, 2)))
        thing = tuple([tuple(part) for part in rows])
        verdict = plain_verdict(thing)
        if isinstance(verdict, int):
            seen["lets"] = seen.get("lets", 0) + 1
            return self.lets(verdict, thing)
        seen[verdict[0]] = seen.get(verdict[0], 0) + 1
        return self.no_paper(*verdict, thing)

    def test_what_is_let_by_has_done_pairs_in_one_row_at_most(self):
        source = random.Random(71)
        seen = 0
        for _ in range(4000):
            many = source.choice((3, 4, 5))
            logs = [((1, A),), ((1, A), (2, B)), ((1, A), (2, B), (2, C)), (), ((1, A), (3, D)), ((3, D),)]
            rows = []
            for _ in range(many):
                log = source.choice(logs)
                rows.append((3, None, log, source.randrange(len(log) + 1)))
            thing = tuple(rows)
            verdict = plain_verdict(thing)
            if not isinstance(verdict, int):
                self.no_paper(*verdict, thing)
                continue
            self.lets(verdict, thing)
            longest = max([log[:done] for _, _, log, done in thing], key=len)
            for _, _, log, done in thing:
                self.assertEqual(log[:done], longest[:done])
            having = [log for _, _, log, _ in thing if log[:len(longest)] == longest]
            self.assertTrue(not longest or 2 * len(having) > many)
            seen += len(longest) > 0
        self.assertGreater(seen, 100)
        self.assertIsNone(refusal_of(lets_houses, PAPER))
