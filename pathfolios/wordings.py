"""A line that is read word by word."""

from pathfolios.errors import NoText
from pathfolios.logs import is_many
from pathfolios.pathreadings import change_read, path_read, test_read, value_read
from pathfolios.rowforms import kinds_of
from pathfolios.values import is_document
from pathfolios.words import is_number, is_word

# The least NUMBER of more than nine figures.
TOO_GREAT = 1000000000


class Wording:
    """How far a line has been read; NoText, with its row and a word's number, where it goes on otherwise."""

    def __init__(self, line, row):
        self.words = line.split(" ")
        self.row = row
        self.at = 0

    def is_through(self):
        """Whether all words have been read."""
        return self.at == len(self.words)

    def claim(self, so):
        """Refuses the word that comes next where this isn't so."""
        if not so:
            raise NoText(self.row, self.at)

    def take(self, kind):
        """What the word that comes next writes, by its kind."""
        self.claim(not self.is_through())
        try:
            part = part_read(self.words[self.at], kind)
        except NoText:
            raise NoText(self.row, self.at) from None
        self.claim(is_of(part, kind))
        self.at += 1
        return part

    def take_form(self, form):
        """The tuple that the words that come next write, of a form that kinds_of knows."""
        self.claim(not self.is_through())
        word = self.words[self.at]
        kinds = kinds_of(form, word)
        self.claim(kinds is not None)
        self.at += 1
        return (word,) + tuple([self.take_part(kind) for kind in kinds])

    def take_part(self, kind):
        """What the words that come next write, by its kind: one, or several, or none."""
        if kind == "entry":
            return self.take_form("entry")
        if kind == "moves":
            return self.take_moves()
        if kind == "perhaps":
            return None if self.is_through() else self.take("number")
        return self.take(kind)

    def take_moves(self):
        """The tuple of the MOVES that all words that are left write."""
        moves = []
        while not self.is_through():
            moves.append(self.take_form("move"))
        return tuple(moves)


def line_read(line, row, form):
    """The tuple of a form that kinds_of knows that a whole line writes, whose number is row; or NoText."""
    wording = Wording(line, row)
    told = wording.take_form(form)
    wording.claim(wording.is_through())
    return told


def part_read(word, kind):
    """What a single word writes, where a kind is asked, be it of this kind or not; or NoText."""
    if kind == "word":
        return word
    if kind == "path":
        return path_read(word)
    if kind == "test":
        return None if word == "-" else test_read(word)
    if kind == "probe":
        return test_read(word)
    if kind == "change":
        return change_read(word)
    return value_read(word)


def is_of(part, kind):
    """Whether what a single word writes, where a kind is asked, is of this kind."""
    if kind == "word":
        return is_word(part)
    if kind == "number":
        return is_short(part)
    if kind == "count":
        return is_short(part) and part >= 0
    if kind == "many":
        return is_many(part)
    if kind == "truth":
        return isinstance(part, bool)
    return kind != "document" or is_document(part)


def is_short(value):
    """Whether a VALUE is a NUMBER that may be a word."""
    return is_number(value) and -TOO_GREAT < value < TOO_GREAT
