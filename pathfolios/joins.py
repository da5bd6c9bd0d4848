"""DOCUMENTS, rows and what STANDS of two sides JOINED over a base."""

from pathfolios.holding import holding, things_of
from pathfolios.leading import view_of
from pathfolios.standing import claim_fit
from pathfolios.values import is_like, is_tree


def joined(base, ours, theirs):
    """Our side, their side, and the CLASHES, of three DOCUMENTS JOINED, each None where it is MISSING."""
    our_side, their_side, places = join_things(base, ours, theirs)
    return (our_side, their_side, tuple(places))


def join_things(base, ours, theirs):
    """Both sides, and a list that rises of the PLACES that CLASH, of three VALUES, each None where it is MISSING."""
    if is_like(ours, theirs) or is_like(base, theirs):
        return (ours, ours, [])
    if is_like(base, ours):
        return (theirs, theirs, [])
    if not is_tree(ours) or not is_tree(theirs):
        return (ours, theirs, [()])
    # A base that is a ROW has NUMBERS for MARKERS, so no field is found in it either.
    our_side, their_side, clashes = join_parts(things_of(base), things_of(ours), things_of(theirs))
    places = [(word,) + place for word, place in clashes]
    return (holding("tree", our_side), holding("tree", their_side), places)


def join_parts(bases, ones, others):
    """Both sides, dicts, and a list that rises of the pairs (WORD, PLACE) that CLASH, of dicts of VALUES by WORDS."""
    our_side, their_side, clashes = {}, {}, []
    for word in sorted({**ones, **others}):
        one, other, places = join_things(bases.get(word), ones.get(word), others.get(word))
        if one is not None:
            our_side[word] = one
        if other is not None:
            their_side[word] = other
        clashes.extend([(word, place) for place in places])
    return (our_side, their_side, clashes)


def joined_rows(base, ours, theirs):
    """Our side, their side, and the CLASHES, pairs (id, PLACE), of three tuples of rows JOINED id by id."""
    our_side, their_side, clashes = join_parts(dict(base), dict(ours), dict(theirs))
    return (tuple(our_side.items()), tuple(their_side.items()), tuple(clashes))


def joined_stands(base, ours, theirs):
    """Our side, their side, and the CLASHES, of three that STAND with the same INDEXES and SHAPES; or NoLead, NoKey."""
    our_rows, their_rows, clashes = joined_rows(view_of(base), view_of(ours), view_of(theirs))
    our_side = with_view(ours, our_rows)
    their_side = with_view(theirs, their_rows)
    claim_fit(our_side)
    claim_fit(their_side)
    return (our_side, their_side, clashes)


def with_view(stands, rows):
    """What STANDS, with rows, pairs (id, DOCUMENT), of the NEWEST edition in the place of its documents."""
    _, indexes, shapes = stands
    return (tuple([(holder, document, len(shapes)) for holder, document in rows]), indexes, shapes)
