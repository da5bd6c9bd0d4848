"""INDEXES, ENTRIES, what STANDS, and HISTORIES, by kind."""

from pathfolios.forms import has_parts, word_of
from pathfolios.paths import is_path
from pathfolios.probes import is_test
from pathfolios.shapes import is_moves, is_shapes
from pathfolios.values import is_document
from pathfolios.words import is_count, is_word

ENTRY_FORMS = {
    "put": ("word", "document", "count"),
    "gone": ("word",),
    "index": ("word", "path", "truth", "test"),
    "bare": ("word",),
    "shape": ("moves",),
}


def is_index(thing):
    """Whether any thing is an INDEX."""
    return isinstance(thing, tuple) and has_parts(("index",) + thing, ENTRY_FORMS["index"], is_entry_part)


def is_entry(thing):
    """Whether any thing is an ENTRY."""
    return has_parts(thing, ENTRY_FORMS.get(word_of(thing)), is_entry_part)


def is_entry_part(part, kind):
    """Whether any thing is of a kind that ENTRY_FORMS names."""
    if kind == "document":
        return is_document(part)
    if kind == "count":
        return is_count(part)
    if kind == "path":
        return is_path(part)
    if kind == "truth":
        return isinstance(part, bool)
    if kind == "test":
        return part is None or is_test(part)
    if kind == "moves":
        return is_moves(part)
    return is_word(part)


def is_stands(thing):
    """Whether any thing is what STANDS."""
    if not isinstance(thing, tuple) or len(thing) != 3:
        return False
    documents, indexes, shapes = thing
    if not isinstance(documents, tuple) or not isinstance(indexes, tuple) or not is_shapes(shapes):
        return False
    if not all([is_placed(part, len(shapes)) for part in documents]) or not all([is_index(part) for part in indexes]):
        return False
    return do_names_rise(documents) and do_names_rise(indexes)


def is_placed(thing, newest):
    """Whether any thing is a triple (id, document, edition) of no edition above the NEWEST."""
    return isinstance(thing, tuple) and is_entry(("put",) + thing) and thing[2] <= newest


def do_names_rise(rows):
    """Whether tuples rise by unlike WORDS that they begin with."""
    return all([row[0] < other[0] for row, other in zip(rows, rows[1:])])


def is_history(thing):
    """Whether any thing is a HISTORY."""
    if not isinstance(thing, tuple) or len(thing) != 3:
        return False
    first, stands, entries = thing
    if not is_count(first) or not is_stands(stands) or not isinstance(entries, tuple):
        return False
    return all([is_entry(part) for part in entries])
