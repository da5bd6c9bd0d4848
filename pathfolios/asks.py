"""What is ASKED by a TEST of what STANDS, by going through."""

from pathfolios.keys import keys_by
from pathfolios.leading import view_of
from pathfolios.meeting import meets


def asked_all(stands, test, *, order=None):
    """All pairs (id, document) of the VIEW whose DOCUMENT MEETS a TEST, in order."""
    return in_order([(holder, document) for holder, document in view_of(stands) if meets(document, test)], order)


def in_order(pairs, order):
    """A tuple of the pairs (id, document) of a list that rises by ids, by the least KEYS that a PATH finds, if any."""
    if order is None:
        return tuple(pairs)
    return tuple(sorted(pairs, key=lambda pair: rank_of(pair, order)))


def rank_of(pair, order):
    """What a pair (id, document) is ordered by: those without a KEY stand behind all others."""
    holder, document = pair
    keys = keys_by(document, order)
    return (not keys, keys[:1], holder)
