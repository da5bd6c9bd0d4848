"""[76] to [88] over long rows of deeds: against a second doing of them, and what is so whatever is done."""

import random

from pathfolios.askers import judged
from pathfolios.asks import asked_all
from pathfolios.folding import folded
from pathfolios.histories import last_mark, stands_at, view_at
from pathfolios.housechecker import lets_houses
from pathfolios.indexchecker import lets_rows
from pathfolios.keeping import Kept
from pathfolios.logs import is_log
from pathfolios.planchecker import lets_plan
from pathfolios.plans import plans_for
from pathfolios.replaying import replayed
from pathfolios.rowreadings import read_log
from pathfolios.rowtexts import log_lines
from pathfolios.store import Store
from pathfolios.streamchecker import lets_stream
from pathfolios.streams import meeting_at
from tests.checks import Checks, refusal_of
from tests.makers import a_test, shape_of
from tests.pasts import a_paper
from tests.plainstore import ASKERS, HOLDERS, PlainStore, a_row, deed_of, whole_of


def answer_of(call, *given):
    """What a call tells or is refused by, kind by kind."""
    refusal = refusal_of(call, *given)
    return shape_of(refusal) if refusal is not None else None


class LikeASecondDoing(Checks):
    def both(self, store, plain, row):
        """Both do a row: they tell the same, or refuse the same; what refused them, or None."""
        answers = []
        for call, given in ((plain.do, (row,)), (deed_of, (store, row))):
            try:
                answers.append(shape_of(call(*given)))
            except (ValueError, LookupError) as error:
                answers.append(shape_of((type(error).__name__, tuple(vars(error).values()))))
                refused = type(error).__name__, tuple(vars(error).values())[:1]
            else:
                refused = None
        self.assertEqual(answers[1], answers[0], row)
        return refused

    def test_all_that_is_told(self):
        source = random.Random(76)
        seen = {}
        for number in range(70):
            store, plain = Store(3 + number % 3), PlainStore(3 + number % 3)
            for _ in range(70):
                row = a_row(source, plain)
                refused = self.both(store, plain, row)
                key = (row[0], refused and (refused[0] if refused[0] not in ("NoTurn", "NoChange") else refused[1][0]))
                seen[key] = seen.get(key, 0) + 1
                self.assertEqual(whole_of(store), plain.whole(), row)
                self.assertEqual(store.walks(), 0)
            self.histories(store, plain)
        for key in (("write", None), ("write", "down"), ("write", "leads"), ("write", "NoHouse"), ("write", "NoMark"),
                    ("write", "NoKey"), ("turn", None), ("turn", "NoId"), ("turn", "none"), ("turn", "test"),
                    ("turn", "leads"), ("settle", None), ("settle", "down"), ("read", None), ("read", "down"),
                    ("read", "Behind"), ("latest", None), ("latest", "own"), ("latest", "few"), ("forget", None),
                    ("forget", "NoMark"), ("branch", None), ("branch", "there"), ("branch", "down"), ("on", None),
                    ("on", "kind"), ("on", "NoName"), ("bring", None), ("bring", "shapes"), ("stand", None),
                    ("fall", None), ("rise", "up"), ("part", None), ("meet", None), ("send", "other"),
                    ("send", "parted")):
            self.assertGreater(seen.get(key, 0), 2, (key, seen))

    def histories(self, store, plain):
        for house in range(plain.houses.many):
            if plain.houses.up[house]:
                self.told(plain.history(house), store.history_of, house)
            else:
                self.refused("NoTurn", ("down",), store.history_of, house)


def some_store(source, number, many=80, each=None):
    """A STORE behind a row of any deeds, and the rows that were done; each is called behind each."""
    store, plain = Store(3 + number % 3), PlainStore(3 + number % 3)
    for _ in range(many):
        row = a_row(source, plain)
        refused = refusal_of(deed_of, store, row)
        if refused is None:
            plain.do(row)
        if each is not None:
            each(store)
    return store


class WhateverIsDone(Checks):
    def test_tales_fit_the_histories_of_houses(self):
        source = random.Random(80)
        self.seen = {"writes": 0, "reads": 0}
        for number in range(60):
            self.marks = {asker: 0 for asker in ASKERS}
            some_store(source, number, 60, self.tales_fit)
        self.assertGreater(self.seen["writes"], 200, self.seen)
        self.assertGreater(self.seen["reads"], 200, self.seen)

    def tales_fit(self, store):
        self.assertEqual(lets_houses(store.paper()), max([row[3] for row in store.paper()]))
        for asker in ASKERS:
            mark, tale = store.mark_of(asker), store.tale_of(asker)
            self.assertGreaterEqual(mark, self.marks[asker])
            self.marks[asker] = mark
            for _, _, log, done in store.paper():
                if done >= mark:
                    history = (0, ((), (), ()), tuple([entry for _, entry in log[:done]]))
                    verdict = judged(history, tale)
                    self.assertEqual(verdict[0], "fits", (history, tale))
                    # The MARKS that it fits are no greater than its own.
                    self.assertLessEqual(max(verdict[1], default=0), mark)
            self.seen["writes"] += len([row for row in tale if row[0] == "write"])
            self.seen["reads"] += len([row for row in tale if row[0] == "read" and row[2] is not None])

    def test_sure_ones_are_so_for_ever_lost_ones_at_none(self):
        source = random.Random(801)
        seen = {"sure": 0, "lost": 0}
        for number in range(120):
            store, plain = Store(3 + number % 3), PlainStore(3 + number % 3)
            sure, lost = [], []
            for _ in range(70):
                row = a_row(source, plain)
                writes = {} if row[0] != "settle" else store.writes_of(row[1])
                try:
                    told = deed_of(store, row)
                except (ValueError, LookupError):
                    continue
                plain.do(row)
                if row[0] == "settle":
                    pairs = store.paper()[row[2]][2]
                    due = [write for write in writes if write[0] <= store.paper()[row[2]][3]]
                    sure += [write for write in due if shape_of(pairs[write[0] - 1]) == shape_of(write[1:])]
                    lost += [write for write in due if shape_of(pairs[write[0] - 1]) != shape_of(write[1:])]
                    self.assertEqual(sorted(set(told[0]) | set(told[1])), sorted(set([write[0] for write in due])))
                for _, _, log, done in store.paper():
                    for write in sure:
                        self.assertTrue(done < write[0] or shape_of(log[write[0] - 1]) == shape_of(write[1:]))
                    for write in lost:
                        self.assertTrue(done < write[0] or shape_of(log[write[0] - 1]) != shape_of(write[1:]))
            seen["sure"] += len(sure)
            seen["lost"] += len(lost)
        self.assertGreater(seen["sure"], 100, seen)
        self.assertGreater(seen["lost"], 3, seen)

    def test_all_agree_at_each_house_and_mark(self):
        source = random.Random(83)
        seen = {"plans": 0, "events": 0, "rows": 0}
        for number in range(40):
            store = some_store(source, number, 60)
            known = {}
            for house in range(3 + number % 3):
                if refusal_of(store.history_of, house) is not None:
                    continue
                history = store.history_of(house)
                test = a_test(source, a_paper(source), 1)
                self.asks_agree(store, house, history, test, known, seen)
                self.streams_agree(store, house, history, test, seen)
        self.assertGreater(seen["plans"], 100, seen)
        self.assertGreater(seen["events"], 100, seen)
        self.assertGreater(seen["rows"], 10, seen)

    def asks_agree(self, store, house, history, test, known, seen):
        kept = Kept(stands_at(history, mark=history[0]))
        for mark in range(history[0], last_mark(history) + 1):
            stands = stands_at(history, mark=mark)
            if mark > history[0]:
                kept.done(history[2][mark - history[0] - 1])
            # Any two houses tell the same of a MARK.
            self.assertEqual(known.setdefault(mark, shape_of(stands)), shape_of(stands))
            told = asked_all(stands, test)
            self.told(told, store.ask, house, test, mark=mark)
            self.assertEqual(shape_of(told), shape_of(meeting_at(history, test, mark=mark)))
            for plan in plans_for(stands, test):
                self.assertTrue(lets_plan(stands, test, plan))
                self.told(told, store.ask, house, test, mark=mark, plan=plan)
                seen["plans"] += 1
            for index in stands[1]:
                rows = store.rows_at(house, index[0], mark=mark)
                self.assertEqual(shape_of(rows), shape_of(kept.rows(index[0])))
                self.assertEqual(lets_rows(stands, index[0], rows), len(rows))
                seen["rows"] += len(rows) > 0

    def streams_agree(self, store, house, history, test, seen):
        first, last = history[0], last_mark(history)
        for since in {first, (first + last) // 2, last}:
            events = store.stream_at(house, test, since=since)
            short = store.stream_at(house, test, since=since, short=True)
            rows = store.ask(house, test, mark=since)
            for some in (events, short):
                self.assertEqual(shape_of(folded(rows, some)), shape_of(store.ask(house, test)))
            self.assertEqual(lets_stream(history, test, events, since=since), len(events))
            seen["events"] += len(events)

    def test_documents_led_one_by_one_or_at_once(self):
        source = random.Random(53)
        for number in range(20):
            store = some_store(source, number, 50)
            for house, (_, _, log, done) in enumerate(store.paper()):
                history = (0, ((), (), ()), tuple([entry for _, entry in log[:done]]))
                for holder in HOLDERS:
                    if refusal_of(store.read, "zz", house, holder) is None:
                        self.assertEqual(store.read("zz", house, holder), (done, dict(view_at(history)).get(holder)))
                    store.mark_of("zz")

    def test_replayed_it_tells_all_that_it_tells(self):
        source = random.Random(88)
        for number in range(40):
            store = some_store(source, number, 60)
            log = store.log()
            self.told(True, is_log, log)
            for other in (replayed(log), replayed(read_log(log_lines(log)))):
                self.assertTrue(other == store)
                self.assertFalse(other != store)
                self.assertEqual(whole_of(other), whole_of(store))
                self.assertEqual(str(other), str(store))
                self.goes_on_alike(other, store, random.Random(number))

    def goes_on_alike(self, other, store, source):
        """Both tell the same of some deeds more, which are undone at the end at the second."""
        many = len(store)
        plain = PlainStore(len(store.paper()))
        for row in store.log()[1:]:
            plain.do(row)
        for _ in range(8):
            row = a_row(source, plain)
            self.assertEqual(answer_of(deed_of, other, row), answer_of(deed_of, store, row))
            self.assertEqual(whole_of(other), whole_of(store))
            refusal_of(plain.do, row)
        while len(store) > many:
            store.undo()

    def test_undo_goes_back_by_each_deed(self):
        source = random.Random(87)
        for number in range(30):
            wholes = [whole_of(Store(3 + number % 3))]

            def keep(store):
                if len(store) == len(wholes):
                    wholes.append(whole_of(store))

            store = some_store(source, number, 60, keep)
            self.assertEqual(len(store) + 1, len(wholes))
            rows = store.log()[1:]
            while wholes[1:]:
                self.assertEqual(whole_of(store), wholes.pop())
                if source.randrange(4) == 0:
                    ahead = whole_of(store)
                    self.goes_on_alike(replayed(store.log()), store, random.Random(len(wholes)))
                    self.assertEqual(whole_of(store), ahead)
                self.told(rows[len(store) - 1], store.undo)
            self.assertEqual(whole_of(store), wholes.pop())
            self.refused("NoStep", (0,), store.undo)
            self.assertTrue(store == Store(3 + number % 3))

    def test_do_all_is_done_in_one_or_not_at_all(self):
        source = random.Random(871)
        seen = {"all": 0, "kept": 0, "none": 0}
        for number in range(100):
            store = some_store(source, number, 25)
            ahead, log = whole_of(store), store.log()
            plain = PlainStore(3 + number % 3)
            for row in log[1:]:
                plain.do(row)
            rows = []
            for _ in range(source.randrange(12)):
                row = a_row(source, plain)
                if refusal_of(plain.do, row) is None or source.randrange(6) == 0:
                    rows.append(row)
            self.does_all(store, ahead, log, rows, seen)
        self.assertGreater(min(seen.values()), 4, seen)

    def does_all(self, store, ahead, log, rows, seen):
        one = replayed(log)
        refusal = None
        done = 0
        for row in rows:
            refusal = refusal_of(deed_of, one, row)
            if refusal is not None:
                break
            done += 1
        if refusal is None:
            self.told(len(rows), store.do_all, rows)
            self.assertEqual(whole_of(store), whole_of(one))
            seen["all"] += 1
        else:
            self.refused(*refusal, store.do_all, tuple(rows))
            self.assertEqual(whole_of(store), ahead)
            self.refused(*refusal, store.do_all, rows, keep=False)
            self.assertEqual(whole_of(store), ahead)
            self.refused(*refusal, store.do_all, rows, keep=True)
            self.assertEqual(whole_of(store), whole_of(one))
            seen["kept" if done else "none"] += 1
        self.assertEqual(store.walks(), 0)
        for row in reversed(rows[:done]):
            self.told(row, store.undo)
        self.assertEqual(whole_of(store), ahead)
