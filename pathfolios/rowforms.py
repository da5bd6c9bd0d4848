"""Forms of the rows of LOGS, of what they are made of, and of what a desk is asked: the kinds behind each word."""

from pathfolios.entries import ENTRY_FORMS
from pathfolios.shapes import MOVE_FORMS

STORE_FORMS = {"store": ("many",)}
DEED_FORMS = {
    "stand": ("number",),
    "fall": ("number",),
    "rise": ("number",),
    "send": ("number", "number"),
    "part": ("number", "number"),
    "meet": ("number", "number"),
    "write": ("word", "number", "entry"),
    "turn": ("word", "number", "word", "change"),
    "settle": ("word", "number"),
    "read": ("word", "number", "word"),
    "latest": ("word", "number", "word"),
    "forget": ("number",),
    "branch": ("word", "number"),
    "on": ("word", "entry"),
    "bring": ("word", "word", "number"),
}
QUESTION_FORMS = {
    "undo": (),
    "count": (),
    "log": (),
    "houses": (),
    "floor": (),
    "mark": ("word",),
    "ask": ("number", "probe", "perhaps"),
    "rows": ("number", "word"),
    "branches": (),
}


def kinds_of(form, word):
    """The kinds of what stands behind a word in a "store", a "deed", a "question", an "entry", a "move"; or None."""
    if form == "store":
        return STORE_FORMS.get(word)
    if form == "deed":
        return DEED_FORMS.get(word)
    if form == "question":
        return QUESTION_FORMS.get(word)
    if form == "entry":
        return ENTRY_FORMS.get(word)
    return MOVE_FORMS.get(word)
