"""UNDOINGS: by kind, done, and between two DOCUMENTS."""

from pathfolios.errors import NoChange
from pathfolios.holding import things_of, with_thing
from pathfolios.paths import is_marker
from pathfolios.values import is_like, is_row, is_tree, is_value
from pathfolios.words import is_word


def is_undoing(thing):
    """Whether any thing is an UNDOING."""
    return isinstance(thing, tuple) and all([is_back(part) for part in thing])


def is_back(thing):
    """Whether any thing is a triple ("back", place, value) of an UNDOING."""
    if not isinstance(thing, tuple) or len(thing) != 3 or thing[0] != "back":
        return False
    return is_place(thing[1]) and (thing[2] is None or is_value(thing[2]))


def is_place(thing):
    """Whether any thing is a tuple of one or more MARKERS."""
    return isinstance(thing, tuple) and len(thing) > 0 and all([is_marker(part) for part in thing])


def undone(document, undoing):
    """The DOCUMENT to which an UNDOING leads a DOCUMENT; NoChange of the first triple that can't be done."""
    stands = document
    for number, (_, place, held) in enumerate(undoing):
        stands = put_back(stands, place, held)
        if stands is None:
            raise NoChange("place", number)
    return stands


def put_back(value, place, held):
    """A VALUE with held at a PLACE in it, without what is there where held is None; None where this can't be done."""
    marker = place[0]
    if len(place) == 1:
        return with_thing(value, marker, held) if can_be_back(value, marker, held) else None
    things = things_of(value)
    turned = put_back(things[marker], place[1:], held) if marker in things else None
    return None if turned is None else with_thing(value, marker, turned)


def can_be_back(holder, marker, held):
    """Whether a HOLDER can have held by a MARKER from now on, or have it no more where held is None."""
    if is_word(marker):
        return is_tree(holder) and (held is not None or marker in things_of(holder))
    return is_row(holder) and held is not None and marker in things_of(holder)


def undoing_between(document, other):
    """The UNDOING that leads a DOCUMENT to the other one."""
    return tuple(turns_within(document, other, ()))


def turns_within(one, other, place):
    """A list of the triples that lead one of two TREES, or of two ROWS of as many things, to the other, at a PLACE."""
    ones = things_of(one)
    others = things_of(other)
    turns = []
    for marker in sorted({**ones, **others}):
        turns.extend(turns_at(ones.get(marker), others.get(marker), place + (marker,)))
    return turns


def turns_at(one, other, place):
    """A list of the triples that lead what stands at a PLACE to something other, each None where it is MISSING."""
    if one is None or other is None:
        return [("back", place, other)]
    if is_like(one, other):
        return []
    if are_alike_built(one, other):
        return turns_within(one, other, place)
    return [("back", place, other)]


def are_alike_built(one, other):
    """Whether two VALUES are both TREES, or both ROWS of as many things."""
    if is_row(one) and is_row(other):
        return len(one[1]) == len(other[1])
    return is_tree(one) and is_tree(other)
