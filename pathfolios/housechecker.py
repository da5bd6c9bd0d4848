"""Any thing looked at as a HOUSE PAPER."""

from pathfolios.entries import is_entry
from pathfolios.errors import NoPaper
from pathfolios.papers import claim, claim_none, first_of
from pathfolios.values import is_like
from pathfolios.words import is_count, is_number

FEWEST_HOUSES = 3
MOST_HOUSES = 5


def lets_houses(thing):
    """The greatest DONE of any thing, where it is a HOUSE PAPER; or NoPaper."""
    claim("shape", is_house_paper(thing))
    for house, row in enumerate(thing):
        claim_row(house, row, len(thing))
    for house, row in enumerate(thing):
        for other in range(house + 1, len(thing)):
            claim_two_rows((house, other), row, thing[other])
    claim_none("few", [do_few_have_done(row, thing) for row in thing])
    return max([done for term, vote, pairs, done in thing])


def is_house_paper(thing):
    """Whether any thing is a tuple of as many rows by kind as there may be houses."""
    if not isinstance(thing, tuple) or not FEWEST_HOUSES <= len(thing) <= MOST_HOUSES:
        return False
    return all([is_house_row(part) for part in thing])


def is_house_row(thing):
    """Whether any thing is a tuple (TERM, VOTE, LOG, DONE) by kind."""
    if not isinstance(thing, tuple) or len(thing) != 4:
        return False
    term, vote, pairs, done = thing
    if not is_count(term) or not is_count(done) or not isinstance(pairs, tuple):
        return False
    return (vote is None or is_number(vote)) and all([is_log_pair(part) for part in pairs])


def is_log_pair(thing):
    """Whether any thing is a pair of a TERM from 1 on and an ENTRY by kind."""
    return isinstance(thing, tuple) and len(thing) == 2 and is_count(thing[0]) and thing[0] > 0 and is_entry(thing[1])


def claim_row(house, row, many):
    """Refuses the row of a house, of so many, in which something can't be so."""
    term, vote, pairs, done = row
    if vote is not None and not 0 <= vote < many:
        raise NoPaper("vote", house)
    terms = [pair[0] for pair in pairs]
    claim_no_pair("log", (house,), [
        own > term or number > 0 and own < terms[number - 1] for number, own in enumerate(terms)
    ])
    if done > len(pairs):
        raise NoPaper("done", house)


def claim_two_rows(two, row, other):
    """Refuses the rows of two houses of which both can't be so."""
    pairs, others = row[2], other[2]
    like_terms = [number + 1 for number, pair in enumerate(pairs[:len(others)]) if pair[0] == others[number][0]]
    faults = [not is_like(pair, match) for pair, match in zip(pairs, others)]
    claim_no_pair("unlike", two, faults[:max(like_terms, default=0)])
    claim_no_pair("split", two, faults[:min(row[3], other[3])])


def claim_no_pair(word, at, faults):
    """Refuses the first pair of a LOG, by a word, the houses and its number, of which there is a fault."""
    number = first_of(faults)
    if number is not None:
        raise NoPaper(word, at + (number + 1,))


def do_few_have_done(row, rows):
    """Whether what a house has DONE stands in so few LOGS that they aren't MOST."""
    _, _, pairs, done = row
    # Where nothing is DONE all have it.
    having = [other for other in rows if is_like(other[2][:done], pairs[:done])]
    return 2 * len(having) <= len(rows)
