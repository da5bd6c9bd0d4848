"""VALUES: PLAINS, ROWS and TREES; which are LIKE, and the KEYS of PLAINS."""

from pathfolios.words import is_number, is_text, is_word


def is_plain(thing):
    """Whether any thing is a PLAIN."""
    return isinstance(thing, bool) or is_number(thing) or is_text(thing)


def is_value(thing):
    """Whether any thing is a VALUE."""
    if is_plain(thing):
        return True
    if not isinstance(thing, tuple) or len(thing) != 2:
        return False
    word, held = thing
    if not isinstance(held, tuple):
        return False
    if word == "row":
        return all([is_value(part) for part in held])
    return word == "tree" and are_fields(held)


def are_fields(things):
    """Whether the things of a tuple are fields, pairs (WORD, VALUE), that rise by unlike WORDS."""
    ahead = ""
    for thing in things:
        if not isinstance(thing, tuple) or len(thing) != 2 or not is_word(thing[0]):
            return False
        if thing[0] <= ahead or not is_value(thing[1]):
            return False
        ahead = thing[0]
    return True


def is_document(thing):
    """Whether any thing is a DOCUMENT."""
    return is_value(thing) and is_tree(thing)


def is_row(value):
    """Whether a VALUE is a ROW."""
    return isinstance(value, tuple) and value[0] == "row"


def is_tree(value):
    """Whether a VALUE is a TREE."""
    return isinstance(value, tuple) and value[0] == "tree"


def is_like(one, other):
    """Whether two VALUES are the same, kind by kind, within, too."""
    if isinstance(one, tuple) and isinstance(other, tuple):
        if len(one) != len(other):
            return False
        return all([is_like(part, match) for part, match in zip(one, other)])
    # To Python True and 1 are equal.
    return isinstance(one, bool) == isinstance(other, bool) and one == other


def key_of(plain):
    """The KEY of a PLAIN: PLAINS rise by these, kind by kind."""
    if isinstance(plain, bool):
        return (0, plain)
    if isinstance(plain, int):
        return (1, plain)
    return (2, plain)
