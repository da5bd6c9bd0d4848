"""Which DOCUMENTS MEET a TEST, and how many PARTS a TEST has."""

from pathfolios.finding import found_in
from pathfolios.values import is_like, is_plain, key_of


def meets(document, test):
    """Whether a DOCUMENT MEETS a TEST."""
    word = test[0]
    if word == "not":
        return not meets(document, test[1])
    if word == "and":
        return all([meets(document, part) for part in test[1]])
    if word == "or":
        return any([meets(document, part) for part in test[1]])
    return any([is_met_by(held, test) for place, held in found_in(document, test[1])])


def is_met_by(held, test):
    """Whether one VALUE FOUND by the path of a TEST is as the TEST asks."""
    word = test[0]
    if word == "there":
        return True
    if word == "like":
        return is_like(held, test[2])
    return is_plain(held) and is_beyond(key_of(held), key_of(test[2]), word)


def is_beyond(key, bound, word):
    """Whether a KEY is of the same kind as another one, and "below" or "above" it."""
    if key[0] != bound[0]:
        return False
    return key < bound if word == "below" else key > bound


def count_parts(test):
    """How many PARTS a TEST has, itself too."""
    word = test[0]
    if word == "not":
        return 1 + count_parts(test[1])
    if word == "and" or word == "or":
        return 1 + sum([count_parts(part) for part in test[1]])
    return 1
