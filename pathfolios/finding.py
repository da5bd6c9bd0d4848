"""What PATHS find in VALUES, and what stands at PLACES."""

from pathfolios.holding import things_of
from pathfolios.values import is_like, is_row


def found_in(value, path):
    """What is FOUND by a PATH in a VALUE: a tuple of pairs (PLACE, VALUE), in order."""
    found = [((), value)]
    for step in path:
        found = [
            (place + (marker,), thing)
            for place, held in found
            for marker, thing in comes_by(held, step)
        ]
    return tuple(found)


def comes_by(value, step):
    """A list of the pairs (MARKER, VALUE) that come by a STEP from a VALUE, in order."""
    word = step[0]
    things = things_of(value)
    if word == "field" or word == "at":
        # WORDS are MARKERS of TREES alone, NUMBERS of ROWS alone.
        return [(step[1], things[step[1]])] if step[1] in things else []
    if not is_row(value):
        return []
    if word == "each":
        return list(things.items())
    return [(number, thing) for number, thing in things.items() if has_like(thing, step[1], step[2])]


def has_like(value, word, plain):
    """Whether a VALUE is a TREE in which the field of this word has a VALUE LIKE a PLAIN."""
    fields = things_of(value)
    return word in fields and is_like(fields[word], plain)


def value_at(value, place):
    """The VALUE that stands at a PLACE in a VALUE; None where it is MISSING."""
    for marker in place:
        things = things_of(value)
        if marker not in things:
            return None
        value = things[marker]
    return value
