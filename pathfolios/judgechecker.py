"""Any thing looked at as what is JUDGED of ASKER'S ROWS."""

from pathfolios.askers import does_fit, least_mark, mark_since, moments_of
from pathfolios.errors import NoPaper
from pathfolios.papers import claim, claim_none
from pathfolios.words import is_number


def lets_judged(history, rows, thing):
    """True of "fits", False of "bar", where any thing is JUDGED of rows by a HISTORY; or NoPaper."""
    claim("shape", is_verdict(thing))
    fits = thing[0] == "fits"
    marks = thing[-1]
    many = len(rows) if fits else thing[1]
    claim("many", len(marks) == many and (fits or many < len(rows)))
    moments = moments_of(history)
    claim_none("mark", [is_wrong(moments, rows[number], marks[:number], marks[number], fits) for number in range(many)])
    if not fits and least_mark(moments, rows[many], mark_since(moments, rows[many], marks)) is not None:
        raise NoPaper("bar", many)
    return fits


def is_verdict(thing):
    """Whether any thing is by kind what JUDGED tells."""
    if not isinstance(thing, tuple) or len(thing) < 2 or not are_numbers(thing[-1]):
        return False
    if len(thing) == 2:
        return thing[0] == "fits"
    return len(thing) == 3 and thing[0] == "bar" and is_number(thing[1])


def are_numbers(thing):
    """Whether any thing is a tuple of NUMBERS."""
    return isinstance(thing, tuple) and all([is_number(part) for part in thing])


def is_wrong(moments, row, ahead, mark, fits):
    """Whether a NUMBER can't be the MARK of a row behind those of the rows ahead, or isn't the least but for "fits"."""
    since = mark_since(moments, row, ahead)
    if fits:
        return mark < since or not does_fit(moments, row, mark)
    return mark != least_mark(moments, row, since)
