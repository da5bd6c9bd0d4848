"""Rows of LOGS written as lines."""

from pathfolios.pathtexts import change_text, path_text, test_text, value_text
from pathfolios.rowforms import kinds_of


def row_line(deed):
    """The row of a deed as a line."""
    return " ".join(words_of(deed, "deed"))


def log_lines(log):
    """A LOG as a list of lines."""
    return [" ".join(words_of(log[0], "store"))] + [row_line(deed) for deed in log[1:]]


def words_of(row, form):
    """A list of the words by which a row of a form that kinds_of knows is written."""
    words = [row[0]]
    for part, kind in zip(row[1:], kinds_of(form, row[0])):
        words.extend(part_words(part, kind))
    return words


def part_words(part, kind):
    """A list of the words by which a part of a row is written, by its kind."""
    if kind == "entry":
        return words_of(part, "entry")
    if kind == "moves":
        return [word for move in part for word in words_of(move, "move")]
    return [part_word(part, kind)]


def part_word(part, kind):
    """The one word by which a part of a row is written, by its kind."""
    if kind == "word":
        return part
    if kind == "path":
        return path_text(part)
    if kind == "test":
        return "-" if part is None else test_text(part)
    if kind == "change":
        return change_text(part)
    return value_text(part)
