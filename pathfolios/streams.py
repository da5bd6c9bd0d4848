"""MEETINGS at MARKS of HISTORIES, and STREAMS between them."""

from pathfolios.asks import asked_all
from pathfolios.errors import NoMark
from pathfolios.folding import events_between, shortened
from pathfolios.histories import entries_between, last_mark, stands_along, stands_at


def meeting_at(history, test, *, mark=None):
    """The MEETING by a TEST at a MARK of a HISTORY, at the LAST where it is None; or NoMark."""
    return asked_all(stands_at(history, mark=mark), test)


def stream(history, test, *, since, upto=None, short=False):
    """The STREAM of a HISTORY by a TEST from one MARK to another, or the SHORT one; or NoMark."""
    stands = stands_at(history, mark=since)
    last = last_mark(history) if upto is None else upto
    if last < since or last > last_mark(history):
        raise NoMark(upto)
    along = stands_along(stands, entries_between(history, since, last))
    meetings = [asked_all(here, test) for here in along]
    events = []
    for number, meeting in enumerate(meetings[1:]):
        events.extend(events_between(since + number + 1, meetings[number], meeting))
    return shortened(meetings[0], events) if short else tuple(events)
