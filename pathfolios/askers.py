"""ASKER'S ROWS, by kind, and JUDGED by a HISTORY."""

from pathfolios.entries import is_entry
from pathfolios.forms import has_parts, word_of
from pathfolios.histories import stands_along
from pathfolios.standing import documents_of
from pathfolios.values import is_document, is_like
from pathfolios.words import is_word

ASKER_FORMS = {"read": ("word", "document"), "write": ("entry",)}


def are_asker_rows(thing):
    """Whether any thing is ASKER'S ROWS."""
    return isinstance(thing, tuple) and all([is_asker_row(part) for part in thing])


def is_asker_row(thing):
    """Whether any thing is one of ASKER'S ROWS."""
    return has_parts(thing, ASKER_FORMS.get(word_of(thing)), is_asker_part)


def is_asker_part(part, kind):
    """Whether any thing is of a kind that ASKER_FORMS names."""
    if kind == "word":
        return is_word(part)
    if kind == "document":
        return part is None or is_document(part)
    return is_entry(part)


def judged(history, rows):
    """("fits", marks), or ("bar", k, marks) of the first row that FITS none; marks the least that can be."""
    moments = moments_of(history)
    marks = []
    for number, row in enumerate(rows):
        mark = least_mark(moments, row, mark_since(moments, row, marks))
        if mark is None:
            return ("bar", number, tuple(marks))
        marks.append(mark)
    return ("fits", tuple(marks))


def moments_of(history):
    """A dict by the MARKS of a HISTORY, as they rise: the documents there, by ids, and the ENTRY that led there."""
    first, stands, entries = history
    along = stands_along(stands, entries)
    leading = (None,) + entries
    return {first + number: (documents_of(here), leading[number]) for number, here in enumerate(along)}


def does_fit(moments, row, mark):
    """Whether one of ASKER'S ROWS FITS a NUMBER as a MARK."""
    if mark not in moments:
        return False
    documents, entry = moments[mark]
    if row[0] == "write":
        return is_like(entry, row[1])
    return is_like(documents.get(row[1]), row[2])


def mark_since(moments, row, ahead):
    """The least NUMBER that can be the MARK of a row behind those of the rows ahead."""
    if not ahead:
        return min(moments)
    return ahead[-1] + 1 if row[0] == "write" else ahead[-1]


def least_mark(moments, row, since):
    """The least MARK from a NUMBER on that a row FITS; None where there is none."""
    for mark in moments:
        if mark >= since and does_fit(moments, row, mark):
            return mark
    return None
