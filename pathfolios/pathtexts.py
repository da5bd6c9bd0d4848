"""VALUES, PATHS, TESTS and CHANGES written as texts."""

from pathfolios.changes import DEED_FORMS
from pathfolios.probes import TEST_FORMS


def value_text(value):
    """A VALUE as a text."""
    if isinstance(value, bool):
        return "yes" if value else "no"
    if isinstance(value, int):
        return str(value)
    if isinstance(value, str):
        return '"' + value + '"'
    if value[0] == "row":
        return "[" + ",".join([value_text(thing) for thing in value[1]]) + "]"
    return "{" + ",".join([word + ":" + value_text(held) for word, held in value[1]]) + "}"


def path_text(path):
    """A PATH as a text."""
    return "/".join([step_text(step) for step in path])


def step_text(step):
    """A STEP as a text."""
    word = step[0]
    if word == "field":
        return step[1]
    if word == "at":
        return "#" + str(step[1])
    if word == "each":
        return "*"
    return "[" + step[1] + "=" + value_text(step[2]) + "]"


def test_text(test):
    """A TEST as a text."""
    return form_text(test, TEST_FORMS[test[0]])


def change_text(change):
    """A CHANGE as a text."""
    test, deeds = change
    ahead = "" if test is None else test_text(test)
    return ahead + ">" + ";".join([form_text(deed, DEED_FORMS[deed[0]]) for deed in deeds])


def form_text(thing, kinds):
    """A TEST or a DEED, whose parts are of these kinds, as a text."""
    return thing[0] + "(" + ",".join([part_text(part, kind) for part, kind in zip(thing[1:], kinds)]) + ")"


def part_text(part, kind):
    """A part of a TEST or of a DEED as a text, by its kind."""
    if kind == "path" or kind == "fieldpath":
        return path_text(part)
    if kind == "test":
        return test_text(part)
    if kind == "tests":
        return ",".join([test_text(one) for one in part])
    if kind == "word":
        return part
    return value_text(part)
