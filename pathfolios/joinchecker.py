"""Any thing looked at as a JOIN."""

from pathfolios.joins import joined
from pathfolios.papers import claim, claim_none
from pathfolios.values import is_document, is_like
from pathfolios.words import is_word


def lets_join(base, ours, theirs, thing):
    """How many CLASHES any thing has, where it is the JOIN of three, each a DOCUMENT or None; or NoPaper."""
    our_side, their_side, places = joined(base, ours, theirs)
    claim("shape", is_join(thing))
    one, other, told = thing
    claim_none("clash", [
        place not in places or number > 0 and place <= told[number - 1] for number, place in enumerate(told)
    ])
    claim_none("lacks", [place not in told for place in places])
    claim("ours", is_like(one, our_side))
    claim("theirs", is_like(other, their_side))
    return len(places)


def is_join(thing):
    """Whether any thing is a triple of two DOCUMENTS, each perhaps None, and a tuple of tuples of WORDS."""
    if not isinstance(thing, tuple) or len(thing) != 3:
        return False
    one, other, places = thing
    if not is_side(one) or not is_side(other) or not isinstance(places, tuple):
        return False
    return all([isinstance(place, tuple) and all([is_word(word) for word in place]) for place in places])


def is_side(thing):
    """Whether any thing is a DOCUMENT or None."""
    return thing is None or is_document(thing)
