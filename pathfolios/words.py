"""The smallest kinds: WORDS, NUMBERS, TEXTS."""

LETTERS = "abcdefghijklmnopqrstuvwxyz"
FIGURES = "0123456789"
LONGEST_WORD = 8
LONGEST_TEXT = 16


def is_made_of(text, signs):
    """Whether each sign of a text is one of these signs."""
    return all([sign in signs for sign in text])


def is_word(thing):
    """Whether any thing is a WORD."""
    return isinstance(thing, str) and 1 <= len(thing) <= LONGEST_WORD and is_made_of(thing, LETTERS)


def is_text(thing):
    """Whether any thing is a TEXT."""
    return isinstance(thing, str) and len(thing) <= LONGEST_TEXT and is_made_of(thing, LETTERS + FIGURES)


def is_number(thing):
    """Whether any thing is a NUMBER."""
    # To Python a truth is an int, too.
    return isinstance(thing, int) and not isinstance(thing, bool)


def is_count(thing):
    """Whether any thing is a NUMBER from 0 on."""
    return is_number(thing) and thing >= 0
