"""Any thing looked at as a PLAN for a TEST."""

from pathfolios.keys import index_or_none, is_key
from pathfolios.papers import claim
from pathfolios.plans import conjuncts_of, is_bounding, is_index_let
from pathfolios.values import key_of
from pathfolios.words import is_word


def lets_plan(stands, test, thing):
    """True where a TEST LETS any thing as a PLAN at what STANDS; or NoPaper."""
    claim("shape", is_plan(thing))
    if thing[0] == "all":
        return True
    _, name, low, high = thing
    index = index_or_none(stands, name)
    claim("name", index is not None)
    conjuncts = conjuncts_of(test)
    claim("test", is_index_let(index, conjuncts))
    bounding = [conjunct for conjunct in conjuncts if is_bounding(conjunct, index[1])]
    claim("bounds", any([is_bound_let(conjunct, low, high) for conjunct in bounding]))
    return True


def is_plan(thing):
    """Whether any thing is a PLAN by kind."""
    if not isinstance(thing, tuple):
        return False
    if len(thing) == 1:
        return thing[0] == "all"
    return len(thing) == 4 and thing[0] == "index" and is_word(thing[1]) and is_end(thing[2]) and is_end(thing[3])


def is_end(thing):
    """Whether any thing is a KEY by kind or None."""
    return thing is None or is_key(thing)


def is_bound_let(conjunct, low, high):
    """Whether low and high leave in all KEYS of PLAINS by which a CONJUNCT that bounds them is met."""
    word = conjunct[0]
    key = key_of(conjunct[2])
    return is_low_let(word, key, low) and is_high_let(word, key, high)


def is_low_let(word, key, low):
    """Whether low leaves in all KEYS that are like, below or above a KEY."""
    if low is None:
        return True
    # What is below a KEY is of its kind, and has no least one.
    return low[0] < key[0] if word == "below" else low <= key


def is_high_let(word, key, high):
    """Whether high leaves in all KEYS that are like, below or above a KEY."""
    if high is None:
        return True
    return high[0] > key[0] if word == "above" else high >= key
