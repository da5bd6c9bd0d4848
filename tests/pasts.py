"""MOVES, INDEXES, ENTRIES, what STANDS and HISTORIES for tests, made from a given random source."""

from pathfolios.errors import FolioError, LackError
from pathfolios.standing import let_in
from tests.makers import a_path_in, a_plain, a_test, a_value

FIELDS = ("a", "b", "c", "d")
IDS = ("a", "b", "c", "far", "x", "zzzzzzzz")
NAMES = ("by", "far", "n", "x")
NOTHING = ((), (), ())


def a_paper(source):
    """A DOCUMENT of few fields, often with a TREE in one of them, so that MOVES and KEYS meet."""
    fields = {}
    for word in source.sample(FIELDS, source.randrange(1, 4)):
        kind = source.choice(("plain", "plain", "tree", "row", "any"))
        if kind == "tree":
            held = source.sample(FIELDS, source.randrange(3))
            fields[word] = ("tree", tuple(sorted([(name, a_plain(source)) for name in held])))
        elif kind == "row":
            fields[word] = ("row", tuple([a_plain(source) for _ in range(source.randrange(4))]))
        else:
            fields[word] = a_plain(source) if kind == "plain" else a_value(source, 2)
    return ("tree", tuple(sorted(fields.items())))


def a_move(source):
    word = source.choice(("put", "move", "cut", "into", "out"))
    field = source.choice(FIELDS)
    if word == "put":
        return ("put", field, a_value(source, 1))
    return ("cut", field) if word == "cut" else (word, field, source.choice(FIELDS))


def some_moves(source, most=3):
    return tuple([a_move(source) for _ in range(source.randrange(most + 1))])


def some_shapes(source, most=3):
    return tuple([some_moves(source) for _ in range(source.randrange(most + 1))])


def an_index(source, name):
    paper = a_paper(source)
    path = source.choice((a_path_in(source, paper), (("field", source.choice(FIELDS)),),
                          (("field", source.choice(FIELDS)), ("each",))))
    test = source.choice((None, None, ("there", path), a_test(source, paper, 1)))
    return (name, path, source.randrange(3) == 0, test)


def some_stands(source):
    """What STANDS, by kind, be it FIT or not."""
    shapes = some_shapes(source)
    holders = sorted(source.sample(IDS, source.randrange(len(IDS))))
    documents = tuple([(holder, a_paper(source), source.randrange(len(shapes) + 1)) for holder in holders])
    names = sorted(source.sample(NAMES, source.randrange(3)))
    return (documents, tuple([an_index(source, name) for name in names]), shapes)


def an_entry(source, stands):
    """Any ENTRY, oftener one that is LET IN at what STANDS than not."""
    word = source.choice(("put", "put", "put", "put", "gone", "index", "index", "bare", "shape"))
    if word == "put":
        newest = len(stands[2])
        edition = source.choice((newest, newest, source.randrange(newest + 1), newest + source.randrange(2)))
        return ("put", source.choice(IDS), a_paper(source), edition)
    if word == "gone":
        return ("gone", source.choice([row[0] for row in stands[0]] or IDS))
    if word == "index":
        return ("index",) + an_index(source, source.choice(NAMES))
    if word == "bare":
        return ("bare", source.choice([index[0] for index in stands[1]] or NAMES))
    return ("shape", some_moves(source, 2))


def a_history(source, many, first=None, stands=NOTHING):
    """A RIGHT HISTORY of so many ENTRIES, from what STANDS on, which is FIT."""
    begin = stands
    entries = []
    while len(entries) < many:
        entry = an_entry(source, stands)
        try:
            stands = let_in(stands, entry)
        except (FolioError, LackError):
            continue
        entries.append(entry)
    return (source.randrange(3) * 7 if first is None else first, begin, tuple(entries))
