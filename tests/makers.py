"""Things of each kind for tests, made from a given random source, and things that are no kind at all."""

WORDS = ("a", "b", "c", "d", "e", "k", "yes", "no", "zzzzzzzz")
PLAINS = (0, 1, -1, 2, 7, -12, True, False, "", "a", "1", "b2", "x" * 16)

# Each of these is no VALUE, no STEP, no PATH, no TEST, no DEED, no CHANGE.
ODD_THINGS = (
    None, [], {}, 1.5, b"a", (None,), ((),), [()], "A", "a b", "x" * 17, ("row",), ("tree",), ("row", []),
    ("tree", []), ["row", ()], ["tree", ()], ("row", (), ()), ("ROW", ()), (1, 2), (1, ()), (True, ()), ([], ()),
    (("row",), ()), ("row", (None,)), ("row", ([],)), ("tree", (("a",),)), ("tree", ("a", 1)), ("tree", (["a", 1],)),
    ("each", 1), ["each"], ("field",), ("at",), ("where", "a"), ("nothing", "a"), ("", ""), (("each",), None),
)


def a_plain(source):
    return source.choice(PLAINS)


def a_value(source, depth=3):
    kind = source.choice(("plain", "row", "tree", "tree")) if depth > 0 else "plain"
    if kind == "plain":
        return a_plain(source)
    many = source.randrange(4)
    if kind == "row":
        return ("row", tuple([a_value(source, depth - 1) for _ in range(many)]))
    words = sorted(source.sample(WORDS, many))
    return ("tree", tuple([(word, a_value(source, depth - 1)) for word in words]))


def a_document(source, depth=4):
    words = sorted(source.sample(WORDS, source.randrange(1, 5)))
    return ("tree", tuple([(word, a_value(source, depth - 1)) for word in words]))


def a_step(source):
    word = source.choice(("field", "field", "field", "at", "each", "each", "where"))
    if word == "field":
        return ("field", source.choice(WORDS))
    if word == "at":
        return ("at", source.randrange(3))
    if word == "each":
        return ("each",)
    return ("where", source.choice(WORDS), a_plain(source))


def a_path(source, most=4):
    return tuple([a_step(source) for _ in range(source.randrange(1, most + 1))])


def step_to(source, value):
    """A STEP by which something comes from a VALUE, with one VALUE that comes; None where there is none."""
    if not isinstance(value, tuple) or not value[1]:
        return None
    if value[0] == "tree":
        word, held = source.choice(value[1])
        return ("field", word), held
    number = source.randrange(len(value[1]))
    held = value[1][number]
    steps = [("at", number), ("each",)]
    if isinstance(held, tuple) and held[0] == "tree":
        steps += [("where", word, part) for word, part in held[1] if not isinstance(part, tuple)]
    return source.choice(steps), held


def a_path_in(source, value, most=4):
    """A PATH that finds something in a VALUE, where it holds anything; else any PATH."""
    path = []
    for _ in range(source.randrange(1, most + 1)):
        told = step_to(source, value)
        if told is None:
            break
        path.append(told[0])
        value = told[1]
    return tuple(path) if path else a_path(source)


def shape_of(thing):
    """A text that is the same for two things only where they are the same kind by kind."""
    return repr(thing)
