"""DOCUMENTS LED from edition to edition, one by one and all that STAND at once."""

from pathfolios.errors import NoLead, NoMark
from pathfolios.shapes import moved


def led(document, shapes, *, since, upto=None, holder=""):
    """A DOCUMENT LED from one edition to another, the NEWEST where that is None; or NoMark, NoLead."""
    newest = len(shapes)
    if since < 0 or since > newest:
        raise NoMark(since)
    last = newest if upto is None else upto
    if last < since or last > newest:
        raise NoMark(upto)
    stands = document
    for moves in shapes[since:last]:
        for move in moves:
            stands = moved(stands, move)
            if stands is None:
                raise NoLead(holder, since)
    return stands


def view_of(stands):
    """The VIEW of what STANDS; NoLead of the least id that can't be LED."""
    documents, _, shapes = stands
    # Ids rise, so the first that can't be LED is the least one.
    return tuple([
        (holder, led(document, shapes, since=edition, holder=holder))
        for holder, document, edition in documents
    ])


def led_all(stands):
    """What STANDS where all are LED to the NEWEST; NoLead of the least id that can't be LED."""
    _, indexes, shapes = stands
    documents = tuple([(holder, document, len(shapes)) for holder, document in view_of(stands)])
    return (documents, indexes, shapes)
