"""Any thing looked at as the ROWS of an INDEX."""

from pathfolios.keys import index_of, is_key, keys_of
from pathfolios.leading import view_of
from pathfolios.papers import claim, claim_none


def lets_rows(stands, name, thing):
    """How many ROWS any thing has, where it is those of the INDEX of a name; or NoName, NoPaper."""
    index = index_of(stands, name)
    claim("shape", are_rows(thing))
    keys = {holder: keys_of(document, index) for holder, document in view_of(stands)}
    claim_none("rise", [False] + [other <= row for row, other in zip(thing, thing[1:])])
    claim_none("id", [holder not in keys for key, holder in thing])
    claim_none("key", [key not in keys[holder] for key, holder in thing])
    claim_none("lacks", [do_lack(thing, holder, owned) for holder, owned in keys.items()])
    return len(thing)


def are_rows(thing):
    """Whether any thing is a tuple of pairs of a KEY by kind and a text."""
    return isinstance(thing, tuple) and all([is_index_row(part) for part in thing])


def is_index_row(thing):
    """Whether any thing is a pair of a KEY by kind and a text."""
    return isinstance(thing, tuple) and len(thing) == 2 and is_key(thing[0]) and isinstance(thing[1], str)


def do_lack(rows, holder, keys):
    """Whether one of these KEYS stands in no row with an id."""
    return any([(key, holder) not in rows for key in keys])
