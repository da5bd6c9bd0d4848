"""EVENTS by kind, and any thing looked at as a STREAM."""

from pathfolios.forms import has_parts, word_of
from pathfolios.papers import claim, claim_none
from pathfolios.streams import stream
from pathfolios.values import is_document, is_like
from pathfolios.words import is_number, is_word

EVENT_FORMS = {
    "in": ("number", "word", "document"),
    "on": ("number", "word", "document"),
    "out": ("number", "word"),
}


def is_event(thing):
    """Whether any thing is an EVENT."""
    return has_parts(thing, EVENT_FORMS.get(word_of(thing)), is_event_part)


def is_event_part(part, kind):
    """Whether any thing is of a kind that EVENT_FORMS names."""
    if kind == "number":
        return is_number(part)
    if kind == "document":
        return is_document(part)
    return is_word(part)


def lets_stream(history, test, thing, *, since, upto=None):
    """How many EVENTS any thing has, where it is the STREAM from one MARK to another; or NoMark, NoPaper."""
    events = stream(history, test, since=since, upto=upto)
    claim("shape", isinstance(thing, tuple) and all([is_event(part) for part in thing]))
    many = len(events)
    claim_none("event", [number >= many or not is_like(part, events[number]) for number, part in enumerate(thing)])
    claim_none("lacks", [number >= len(thing) for number in range(many)])
    return many
