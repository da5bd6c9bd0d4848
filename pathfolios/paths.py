"""STEPS, PATHS and MARKERS."""

from pathfolios.forms import has_parts, word_of
from pathfolios.values import is_plain
from pathfolios.words import is_count, is_word

STEP_FORMS = {"field": ("word",), "at": ("count",), "each": (), "where": ("word", "plain")}


def is_step(thing):
    """Whether any thing is a STEP."""
    return has_parts(thing, STEP_FORMS.get(word_of(thing)), is_step_part)


def is_step_part(part, kind):
    """Whether any thing is of a kind that STEP_FORMS names."""
    if kind == "word":
        return is_word(part)
    if kind == "count":
        return is_count(part)
    return is_plain(part)


def is_path(thing):
    """Whether any thing is a PATH."""
    return isinstance(thing, tuple) and len(thing) > 0 and all([is_step(part) for part in thing])


def is_marker(thing):
    """Whether any thing is a MARKER."""
    return is_word(thing) or is_count(thing)
