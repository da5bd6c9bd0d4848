"""HISTORIES: whether they are RIGHT, what STANDS at their MARKS, ENTRIES more, and what is FORGOTTEN."""

from pathfolios.errors import NoId, NoKey, NoLead, NoMark, NoName
from pathfolios.leading import view_of
from pathfolios.standing import is_fit, let_in, stands_behind


def is_right(history):
    """Whether what STANDS at the first MARK is FIT, and each ENTRY is LET IN."""
    _, stands, entries = history
    if not is_fit(stands):
        return False
    try:
        for entry in entries:
            stands = let_in(stands, entry)
    except (NoMark, NoId, NoName, NoLead, NoKey):
        return False
    return True


def last_mark(history):
    """The LAST MARK of a HISTORY."""
    first, _, entries = history
    return first + len(entries)


def entries_between(history, since, upto):
    """The ENTRIES that lead from one MARK of a HISTORY to another one."""
    first, _, entries = history
    return entries[since - first:upto - first]


def stands_along(stands, entries):
    """A list of what STANDS ahead of ENTRIES and behind each of them, from what STANDS on."""
    along = [stands]
    for entry in entries:
        along.append(stands_behind(along[-1], entry))
    return along


def stands_at(history, *, mark=None):
    """What STANDS at a MARK, at the LAST where it is None; or NoMark."""
    first, stands, _ = history
    last = last_mark(history)
    upto = last if mark is None else mark
    if upto < first or upto > last:
        raise NoMark(mark)
    return stands_along(stands, entries_between(history, first, upto))[-1]


def view_at(history, *, mark=None):
    """The VIEW at a MARK, at the LAST where it is None; or NoMark."""
    return view_of(stands_at(history, mark=mark))


def history_on(history, entry):
    """The HISTORY with an ENTRY more behind; or refused as that isn't LET IN."""
    first, stands, entries = history
    let_in(stands_at(history), entry)
    return (first, stands, entries + (entry,))


def forgotten(history, mark):
    """The HISTORY that is FORGOTTEN up to a MARK; or NoMark."""
    stands = stands_at(history, mark=mark)
    return (mark, stands, entries_between(history, mark, last_mark(history)))
