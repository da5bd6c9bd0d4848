"""TESTS, by kind."""

from pathfolios.forms import has_parts, word_of
from pathfolios.paths import is_path
from pathfolios.values import is_plain, is_value

TEST_FORMS = {
    "there": ("path",),
    "like": ("path", "value"),
    "below": ("path", "plain"),
    "above": ("path", "plain"),
    "not": ("test",),
    "and": ("tests",),
    "or": ("tests",),
}


def is_test(thing):
    """Whether any thing is a TEST."""
    return has_parts(thing, TEST_FORMS.get(word_of(thing)), is_test_part)


def is_test_part(part, kind):
    """Whether any thing is of a kind that TEST_FORMS names."""
    if kind == "path":
        return is_path(part)
    if kind == "value":
        return is_value(part)
    if kind == "plain":
        return is_plain(part)
    if kind == "test":
        return is_test(part)
    return isinstance(part, tuple) and all([is_test(one) for one in part])
