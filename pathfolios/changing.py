"""CHANGES done: each DEED at once at all that it finds, all DEEDS or none."""

from pathfolios.errors import NoChange
from pathfolios.finding import comes_by
from pathfolios.holding import holding, things_of, with_thing
from pathfolios.meeting import meets
from pathfolios.undoing import undoing_between
from pathfolios.values import is_like, is_row, is_tree
from pathfolios.words import is_number


def changed(document, change, *, told=False):
    """The DOCUMENT to which a CHANGE leads a DOCUMENT, with the UNDOING that leads back where told; or NoChange."""
    test, deeds = change
    if test is not None and not meets(document, test):
        raise NoChange("test", -1)
    stands = document
    for number, deed in enumerate(deeds):
        stands = turned_by(stands, steps_to_turn(deed), deed)
        if stands is None:
            raise NoChange("none", number)
    if told:
        return (stands, undoing_between(stands, document))
    return stands


def steps_to_turn(deed):
    """The STEPS, perhaps none, to what a DEED turns: to its HOLDERS, or to what is FOUND by its path."""
    word, path = deed[0], deed[1]
    # A thing that goes is taken out of what holds it, so that all that go out of one ROW go at once.
    if word == "set" or word == "rename" or word == "unset":
        return path[:-1]
    return path


def turned_by(value, steps, deed):
    """A VALUE with a DEED done at all to which STEPS lead in it; None where it can be done at none of these."""
    if not steps:
        turn = TURNS[deed[0]]
        return turn(value, deed)
    things = things_of(value)
    is_done = False
    for marker, thing in comes_by(value, steps[0]):
        turned = turned_by(thing, steps[1:], deed)
        if turned is not None:
            things[marker] = turned
            is_done = True
    return holding(value[0], things) if is_done else None


def set_in(holder, deed):
    """A HOLDER behind a "set"; None where it has nothing to be set."""
    step, value = deed[1][-1], deed[2]
    if step[0] == "field":
        return with_thing(holder, step[1], value) if is_tree(holder) else None
    coming = comes_by(holder, step)
    things = things_of(holder)
    for marker, _ in coming:
        things[marker] = value
    return holding(holder[0], things) if coming else None


def unset_in(holder, deed):
    """A HOLDER behind an "unset"; None where nothing of it goes."""
    going = comes_by(holder, deed[1][-1])
    things = things_of(holder)
    for marker, _ in going:
        del things[marker]
    return holding(holder[0], things) if going else None


def rename_in(holder, deed):
    """A HOLDER behind a "rename"; None where it isn't a TREE that has the field and not the other one."""
    field, word = deed[1][-1][1], deed[2]
    things = things_of(holder)
    if field not in things or word in things:
        return None
    things[word] = things.pop(field)
    return holding(holder[0], things)


def add_to(found, deed):
    """A VALUE FOUND behind an "add"; None where it is no NUMBER."""
    return found + deed[2] if is_number(found) else None


def push_on(found, deed):
    """A VALUE FOUND behind a "push"; None where it is no ROW."""
    return ("row", found[1] + (deed[2],)) if is_row(found) else None


def pull_from(found, deed):
    """A VALUE FOUND behind a "pull"; None where it is no ROW."""
    if not is_row(found):
        return None
    return ("row", tuple([thing for thing in found[1] if not is_like(thing, deed[2])]))


TURNS = {
    "set": set_in,
    "unset": unset_in,
    "add": add_to,
    "push": push_on,
    "pull": pull_from,
    "rename": rename_in,
}
