"""Rows of LOGS, and LOGS, read from lines."""

from pathfolios.errors import NoText
from pathfolios.wordings import line_read


def read_row(text):
    """The row of a deed that a text writes; or NoText."""
    return line_read(text, 0, "deed")


def read_log(lines):
    """The LOG that a list of lines writes; or NoText."""
    if not lines:
        raise NoText(0, 0)
    first = line_read(lines[0], 0, "store")
    return (first,) + tuple([line_read(line, number + 1, "deed") for number, line in enumerate(lines[1:])])
