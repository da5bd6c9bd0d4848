"""MOVES and SHAPES: by kind, and what comes of a DOCUMENT by a MOVE."""

from pathfolios.forms import has_parts, word_of
from pathfolios.holding import holding, things_of
from pathfolios.values import is_tree, is_value
from pathfolios.words import is_word

MOVE_FORMS = {
    "put": ("word", "value"),
    "move": ("word", "word"),
    "cut": ("word",),
    "into": ("word", "word"),
    "out": ("word", "word"),
}


def is_move(thing):
    """Whether any thing is a MOVE."""
    return has_parts(thing, MOVE_FORMS.get(word_of(thing)), is_move_part)


def is_move_part(part, kind):
    """Whether any thing is of a kind that MOVE_FORMS names."""
    return is_value(part) if kind == "value" else is_word(part)


def is_moves(thing):
    """Whether any thing is a tuple of MOVES."""
    return isinstance(thing, tuple) and all([is_move(part) for part in thing])


def is_shapes(thing):
    """Whether any thing is SHAPES."""
    return isinstance(thing, tuple) and all([is_moves(part) for part in thing])


def moved(document, move):
    """The DOCUMENT that comes of a DOCUMENT by a MOVE; None where it can't be LED."""
    turn = TURNS[move[0]]
    fields = turn(things_of(document), move)
    return None if fields is None else holding("tree", fields)


def put_field(fields, move):
    """The fields behind a "put"."""
    _, field, value = move
    if field not in fields:
        fields[field] = value
    return fields


def move_field(fields, move):
    """The fields behind a "move"; None where the other one is there already."""
    _, field, other = move
    if field not in fields:
        return fields
    if other in fields:
        return None
    fields[other] = fields.pop(field)
    return fields


def cut_field(fields, move):
    """The fields behind a "cut"."""
    fields.pop(move[1], None)
    return fields


def wrap_field(fields, move):
    """The fields behind an "into"."""
    _, field, other = move
    if field in fields:
        fields[field] = ("tree", ((other, fields[field]),))
    return fields


def lift_field(fields, move):
    """The fields behind an "out"; None where field is no TREE, or the other one is there already."""
    _, field, other = move
    if field not in fields:
        return fields
    if not is_tree(fields[field]):
        return None
    within = things_of(fields[field])
    if other not in within:
        return fields
    if other in fields:
        return None
    fields[other] = within.pop(other)
    fields[field] = holding("tree", within)
    return fields


# Each turns the dict of fields that it is handed, and tells it.
TURNS = {
    "put": put_field,
    "move": move_field,
    "cut": cut_field,
    "into": wrap_field,
    "out": lift_field,
}
