"""INDEXES kept: ROWS turned by ENTRY after ENTRY."""

from pathfolios.keys import index_of, rows_of
from pathfolios.standing import let_in
from pathfolios.values import is_like


class Kept:
    """What STANDS, and the ROWS of all its INDEXES as triples (name, KEY, id) that rise."""

    def __init__(self, stands):
        self.held = stands
        self.triples = tuple(triples_of(stands))

    def done(self, entry):
        """Does an ENTRY: how many triples came, and how many went; or refused as it isn't LET IN."""
        behind = let_in(self.held, entry)
        name, holder = touch_of(entry)
        going = [triple for triple in self.triples if is_touched(triple, name, holder)]
        staying = [triple for triple in self.triples if not is_touched(triple, name, holder)]
        coming = triples_of(cut_down(behind, name, holder))
        self.held = behind
        self.triples = tuple(sorted(staying + coming))
        return (len(set(coming) - set(going)), len(set(going) - set(coming)))

    def stands(self):
        """What STANDS."""
        return self.held

    def rows(self, name):
        """The ROWS of the INDEX of a name; or NoName."""
        index = index_of(self.held, name)
        return tuple([(key, holder) for other, key, holder in self.triples if other == index[0]])

    def __len__(self):
        return len(self.triples)

    def __str__(self):
        counts = [f"{index[0]}:{len(self.rows(index[0]))}" for index in self.held[1]]
        return " ".join(counts or ["-"])

    def __eq__(self, other):
        return isinstance(other, Kept) and is_like(self.held, other.held)

    def __ne__(self, other):
        return not self == other


def triples_of(stands):
    """A list that rises of the triples (name, KEY, id) of all INDEXES at what STANDS, gone through anew."""
    return [(index[0], key, holder) for index in stands[1] for key, holder in rows_of(stands, index[0])]


def touch_of(entry):
    """A pair (name, id): of which INDEX and of which id an ENTRY may turn triples, each None where of any."""
    word = entry[0]
    if word == "put" or word == "gone":
        return (None, entry[1])
    if word == "index" or word == "bare":
        return (entry[1], None)
    return (None, None)


def is_touched(triple, name, holder):
    """Whether a triple is of this INDEX and of this id, each None where of any."""
    return (name is None or triple[0] == name) and (holder is None or triple[2] == holder)


def cut_down(stands, name, holder):
    """What STANDS, of it this INDEX and this id alone, each None where it is any."""
    documents, indexes, shapes = stands
    return (rows_named(documents, holder), rows_named(indexes, name), shapes)


def rows_named(rows, name):
    """A tuple of those rows that begin with a name, of all where it is None."""
    return tuple([row for row in rows if name is None or row[0] == name])
