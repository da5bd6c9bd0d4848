"""Rows FOLDED by EVENTS, and the SHORT ones of EVENTS."""

from pathfolios.values import is_like


def folded(rows, events):
    """The rows, pairs (id, document), that stand behind EVENTS: a rising tuple."""
    documents = dict(rows)
    for event in events:
        if event[0] == "out":
            documents.pop(event[2], None)
        else:
            documents[event[2]] = event[3]
    return tuple(sorted(documents.items()))


def shortened(rows, events):
    """The SHORT ones of EVENTS, of each id one at most: a tuple by rising MARKS, of like ones by ids."""
    ahead = dict(rows)
    behind = dict(folded(rows, events))
    # Of several EVENTS of an id the mark of the last stays.
    marks = {event[2]: event[1] for event in events}
    places = sorted([(mark, holder) for holder, mark in marks.items()])
    told = [event_between(mark, holder, ahead.get(holder), behind.get(holder)) for mark, holder in places]
    return tuple([event for event in told if event is not None])


def events_between(mark, ahead, behind):
    """A list of the EVENTS at a MARK that lead from rows to other ones, by rising ids."""
    one = dict(ahead)
    other = dict(behind)
    told = [event_between(mark, holder, one.get(holder), other.get(holder)) for holder in sorted({**one, **other})]
    return [event for event in told if event is not None]


def event_between(mark, holder, ahead, behind):
    """The EVENT that leads an id from one DOCUMENT to another, each None where it has none; None where none does."""
    if behind is None:
        return None if ahead is None else ("out", mark, holder)
    if ahead is None:
        return ("in", mark, holder, behind)
    return None if is_like(ahead, behind) else ("on", mark, holder, behind)
