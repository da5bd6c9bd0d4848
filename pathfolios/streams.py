"""MEETINGS at MARKS of HISTORIES, and STREAMS between them."""

from pathfolios.asks import asked_all
from pathfolios.errors import NoMark
from pathfolios.folding import events_between, shortened
from pathfolios.histories import entries_between, last_mark, stands_at
from pathfolios.standing import stands_behind


def meeting_at(history, test, *, mark=None):
    """The MEETING by a TEST at a MARK of a HISTORY, at the LAST where it is None; or NoMark."""
    return asked_all(stands_at(history, mark=mark), test)


def stream(history, test, *, since, upto=None, short=False):
    """The STREAM of a HISTORY by a TEST from one MARK to another, or the SHORT one; or NoMark."""
    stands = stands_at(history, mark=since)
    last = last_mark(history) if upto is None else upto
    if last < since or last > last_mark(history):
        raise NoMark(upto)
    meetings = meetings_along(stands, test, entries_between(history, since, last))
    events = []
    for number, meeting in enumerate(meetings[1:]):
        events.extend(events_between(since + number + 1, meetings[number], meeting))
    return shortened(meetings[0], events) if short else tuple(events)


def meetings_along(stands, test, entries):
    """A list of the MEETINGS by a TEST, ahead of ENTRIES and behind each of them, from what STANDS on."""
    meetings = [asked_all(stands, test)]
    for entry in entries:
        stands = stands_behind(stands, entry)
        meetings.append(asked_all(stands, test))
    return meetings
