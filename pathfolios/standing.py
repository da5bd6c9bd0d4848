"""Whether what STANDS is FIT, and what STANDS behind an ENTRY that is LET IN."""

from pathfolios.errors import NoId, NoKey, NoLead, NoMark, NoName
from pathfolios.keys import index_or_none, rows_by
from pathfolios.leading import view_of


def is_fit(stands):
    """Whether all documents can be LED to the NEWEST, and each INDEX is SOUND."""
    try:
        claim_fit(stands)
    except (NoLead, NoKey):
        return False
    return True


def let_in(stands, entry):
    """What STANDS behind an ENTRY; or NoMark, NoId, NoName, NoLead, NoKey where it isn't LET IN."""
    claim_there(stands, entry)
    behind = stands_behind(stands, entry)
    claim_fit(behind)
    return behind


def claim_there(stands, entry):
    """Refuses a "put" of an edition above the NEWEST, a "gone" and a "bare" of what isn't there."""
    documents, _, shapes = stands
    word = entry[0]
    if word == "put" and entry[3] > len(shapes):
        raise NoMark(entry[3])
    if word == "gone" and entry[1] not in [row[0] for row in documents]:
        raise NoId(entry[1])
    if word == "bare" and index_or_none(stands, entry[1]) is None:
        raise NoName(entry[1])


def claim_fit(stands):
    """Refuses what STANDS where it isn't FIT: NoLead, then NoKey of the first INDEX that isn't SOUND."""
    view = view_of(stands)
    for index in stands[1]:
        if index[2]:
            claim_sound(index[0], rows_by(view, index))


def claim_sound(name, rows):
    """Refuses the ROWS of a unique INDEX in which a KEY has two ids."""
    for row, other in zip(rows, rows[1:]):
        # ROWS rise: these are the first KEY that has two, and its two least ids.
        if row[0] == other[0]:
            raise NoKey(name, other[1])


def stands_behind(stands, entry):
    """What STANDS behind an ENTRY, be it LET IN or not."""
    documents, indexes, shapes = stands
    word = entry[0]
    if word == "put":
        return (rows_with(documents, entry[1:]), indexes, shapes)
    if word == "gone":
        return (rows_without(documents, entry[1]), indexes, shapes)
    if word == "index":
        return (documents, rows_with(indexes, entry[1:]), shapes)
    if word == "bare":
        return (documents, rows_without(indexes, entry[1]), shapes)
    return (documents, indexes, shapes + (entry[1],))


def documents_of(stands):
    """A dict by ids of the documents as they STAND, of whatever edition."""
    return {holder: document for holder, document, edition in stands[0]}


def rows_with(rows, row):
    """Rising rows of unlike names with one more, in the place of that of its name."""
    return tuple(sorted(rows_without(rows, row[0]) + (row,)))


def rows_without(rows, name):
    """Rising rows of unlike names without that of a name."""
    return tuple([row for row in rows if row[0] != name])
