"""LOGS, by kind."""

from pathfolios.changes import is_change
from pathfolios.entries import is_entry
from pathfolios.forms import has_parts, word_of
from pathfolios.housechecker import FEWEST_HOUSES, MOST_HOUSES
from pathfolios.rowforms import kinds_of
from pathfolios.words import is_number, is_word


def is_log(thing):
    """Whether any thing is a LOG."""
    if not isinstance(thing, tuple) or not thing or not is_row_of(thing[0], "store"):
        return False
    return all([is_row_of(part, "deed") for part in thing[1:]])


def is_row_of(thing, form):
    """Whether any thing is a row of a form that kinds_of knows."""
    return has_parts(thing, kinds_of(form, word_of(thing)), is_row_part)


def is_row_part(part, kind):
    """Whether any thing is of a kind that stands in the rows of LOGS."""
    if kind == "many":
        return is_many(part)
    if kind == "number":
        return is_number(part)
    if kind == "entry":
        return is_entry(part)
    if kind == "change":
        return is_change(part)
    return is_word(part)


def is_many(thing):
    """Whether any thing is how many houses there may be."""
    return is_number(thing) and FEWEST_HOUSES <= thing <= MOST_HOUSES
