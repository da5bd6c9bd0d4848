"""What TREES and ROWS hold, by MARKERS, and TREES and ROWS made anew of it."""

from pathfolios.values import is_row, is_tree


def things_of(value):
    """A dict, by MARKERS as they rise, of the VALUES that a TREE or a ROW holds; of a PLAIN a void one."""
    if is_tree(value):
        return dict(value[1])
    if is_row(value):
        return dict(enumerate(value[1]))
    return {}


def holding(word, things):
    """The "tree" or the "row" that holds the things of a dict by MARKERS; a ROW closes up over missing NUMBERS."""
    # A dict keeps the order in which it was filled: MARKERS rise only where they are sorted.
    markers = sorted(things)
    if word == "tree":
        return ("tree", tuple([(marker, things[marker]) for marker in markers]))
    return ("row", tuple([things[marker] for marker in markers]))


def with_thing(value, marker, held):
    """A TREE or a ROW that has held by a MARKER from now on; that has there nothing any more where held is None."""
    things = things_of(value)
    if held is None:
        del things[marker]
    else:
        things[marker] = held
    return holding(value[0], things)
