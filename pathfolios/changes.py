"""DEEDS and CHANGES, by kind."""

from pathfolios.forms import has_parts, word_of
from pathfolios.paths import is_path
from pathfolios.probes import is_test
from pathfolios.values import is_value
from pathfolios.words import is_number, is_word

DEED_FORMS = {
    "set": ("path", "value"),
    "unset": ("path",),
    "add": ("path", "number"),
    "push": ("path", "value"),
    "pull": ("path", "value"),
    "rename": ("fieldpath", "word"),
}


def is_deed(thing):
    """Whether any thing is a DEED."""
    return has_parts(thing, DEED_FORMS.get(word_of(thing)), is_deed_part)


def is_deed_part(part, kind):
    """Whether any thing is of a kind that DEED_FORMS names."""
    if kind == "path":
        return is_path(part)
    if kind == "fieldpath":
        return is_path(part) and ends_in_field(part)
    if kind == "value":
        return is_value(part)
    if kind == "number":
        return is_number(part)
    return is_word(part)


def ends_in_field(path):
    """Whether the last STEP of a PATH is a "field"."""
    return path[-1][0] == "field"


def is_change(thing):
    """Whether any thing is a CHANGE."""
    if not isinstance(thing, tuple) or len(thing) != 2:
        return False
    test, deeds = thing
    if test is not None and not is_test(test):
        return False
    return isinstance(deeds, tuple) and len(deeds) > 0 and all([is_deed(deed) for deed in deeds])
