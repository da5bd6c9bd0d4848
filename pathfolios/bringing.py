"""What a BRANCH brings: the ENTRIES that lead to a side of a JOIN, and what CLASHES on the other one."""

from pathfolios.leading import view_of
from pathfolios.standing import let_in
from pathfolios.values import is_like


def entries_to(stands, side):
    """A list, by ids, of the ENTRIES by which the VIEW of what STANDS becomes a side's; or as they aren't LET IN."""
    ahead = dict(view_of(stands))
    behind = dict(view_of(side))
    turned = [holder for holder in sorted({**ahead, **behind}) if not is_like(ahead.get(holder), behind.get(holder))]
    entries = [entry_to(holder, behind.get(holder), len(side[2])) for holder in turned]
    for entry in entries:
        stands = let_in(stands, entry)
    return entries


def entry_to(holder, document, edition):
    """The ENTRY behind which an id has a DOCUMENT of an edition, or none where that is None."""
    return ("gone", holder) if document is None else ("put", holder, document, edition)


def clashing(side, clashes):
    """The pairs (id, DOCUMENT or None) of a side of all ids that CLASH: a rising tuple."""
    documents = dict(view_of(side))
    return tuple([(holder, documents.get(holder)) for holder in sorted(set([holder for holder, place in clashes]))])
