"""Forms: tuples of a word and, behind it, parts whose kinds the word tells."""


def word_of(thing):
    """The text that any thing begins with, where it is a tuple that begins with one; else the void text."""
    if isinstance(thing, tuple) and thing and isinstance(thing[0], str):
        return thing[0]
    return ""


def has_parts(thing, kinds, is_part):
    """Whether a tuple has behind its word parts of these kinds, no more, no less; None is told as no kinds at all."""
    if kinds is None or len(thing) != len(kinds) + 1:
        return False
    return all([is_part(part, kind) for part, kind in zip(thing[1:], kinds)])
