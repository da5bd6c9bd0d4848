"""How things that are looked at as papers are refused."""

from pathfolios.errors import NoPaper


def claim(word, so):
    """Refuses any thing as a paper, with a word, where this isn't so."""
    if not so:
        raise NoPaper(word, -1)


def claim_none(word, faults):
    """Refuses the first number, with a word, of which there is a fault."""
    number = first_of(faults)
    if number is not None:
        raise NoPaper(word, number)


def first_of(faults):
    """The first number of which there is a fault; None where there is none."""
    for number, is_fault in enumerate(faults):
        if is_fault:
            return number
    return None
