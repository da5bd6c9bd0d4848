"""KEYS of DOCUMENTS by INDEXES, and the ROWS of INDEXES gone through anew."""

from pathfolios.errors import NoName
from pathfolios.finding import found_in
from pathfolios.leading import view_of
from pathfolios.meeting import meets
from pathfolios.values import is_plain, key_of
from pathfolios.words import is_number


def is_key(thing):
    """Whether any thing is a KEY by kind, of any text."""
    if not isinstance(thing, tuple) or len(thing) != 2 or not is_number(thing[0]):
        return False
    number, plain = thing
    if number == 0:
        return isinstance(plain, bool)
    if number == 1:
        return is_number(plain)
    return number == 2 and isinstance(plain, str)


def keys_of(document, index):
    """The KEYS of a DOCUMENT, as it is, by an INDEX: a rising tuple."""
    _, path, _, test = index
    if test is not None and not meets(document, test):
        return ()
    return keys_by(document, path)


def keys_by(document, path):
    """The KEYS of all PLAINS that a PATH finds in a DOCUMENT: a rising tuple."""
    return tuple(sorted(set([key_of(held) for place, held in found_in(document, path) if is_plain(held)])))


def rows_of(stands, name):
    """The ROWS of the INDEX of a name at what STANDS, gone through anew; or NoName."""
    index = index_of(stands, name)
    return rows_by(view_of(stands), index)


def rows_by(view, index):
    """The ROWS of an INDEX at a VIEW: a rising tuple of pairs (KEY, id)."""
    return tuple(sorted([(key, holder) for holder, document in view for key in keys_of(document, index)]))


def index_of(stands, name):
    """The INDEX of a name at what STANDS; or NoName."""
    index = index_or_none(stands, name)
    if index is None:
        raise NoName(name)
    return index


def index_or_none(stands, name):
    """The INDEX of a name at what STANDS; None where there is none."""
    for index in stands[1]:
        if index[0] == name:
            return index
    return None
