"""Things of each kind for tests, made from a given random source, and things that are no kind at all."""

WORDS = ("a", "b", "c", "d", "e", "k", "yes", "no", "zzzzzzzz")
PLAINS = (0, 1, -1, 2, 7, -12, True, False, "", "a", "1", "b2", "x" * 16)

# Each of these is no VALUE, no STEP, no PATH, no TEST, no DEED, no CHANGE.
ODD_THINGS = (
    None, [], {}, 1.5, b"a", (None,), ((),), [()], "A", "a b", "x" * 17, ("row",), ("tree",), ("row", []),
    ("tree", []), ["row", ()], ["tree", ()], ("row", (), ()), ("ROW", ()), (1, 2), (1, ()), (True, ()), ([], ()),
    (("row",), ()), ("row", (None,)), ("row", ([],)), ("tree", (("a",),)), ("tree", ("a", 1)), ("tree", (["a", 1],)),
    ("each", 1), ["each"], ("field",), ("at",), ("where", "a"), ("nothing", "a"), ("", ""), (("each",), None),
)


def a_plain(source):
    return source.choice(PLAINS)


def a_value(source, depth=3):
    kind = source.choice(("plain", "row", "tree", "tree")) if depth > 0 else "plain"
    if kind == "plain":
        return a_plain(source)
    many = source.randrange(4)
    if kind == "row":
        return ("row", tuple([a_value(source, depth - 1) for _ in range(many)]))
    words = sorted(source.sample(WORDS, many))
    return ("tree", tuple([(word, a_value(source, depth - 1)) for word in words]))


def a_document(source, depth=4):
    words = sorted(source.sample(WORDS, source.randrange(1, 5)))
    return ("tree", tuple([(word, a_value(source, depth - 1)) for word in words]))


def a_step(source):
    word = source.choice(("field", "field", "field", "at", "each", "each", "where"))
    if word == "field":
        return ("field", source.choice(WORDS))
    if word == "at":
        return ("at", source.randrange(3))
    if word == "each":
        return ("each",)
    return ("where", source.choice(WORDS), a_plain(source))


def a_path(source, most=4):
    return tuple([a_step(source) for _ in range(source.randrange(1, most + 1))])


def step_to(source, value):
    """A STEP by which something comes from a VALUE, with one VALUE that comes; None where there is none."""
    if not isinstance(value, tuple) or not value[1]:
        return None
    if value[0] == "tree":
        word, held = source.choice(value[1])
        return ("field", word), held
    number = source.randrange(len(value[1]))
    held = value[1][number]
    steps = [("at", number), ("each",)]
    if isinstance(held, tuple) and held[0] == "tree":
        steps += [("where", word, part) for word, part in held[1] if not isinstance(part, tuple)]
    return source.choice(steps), held


def a_path_in(source, value, most=4):
    """A PATH that finds something in a VALUE, where it holds anything; else any PATH."""
    path = []
    for _ in range(source.randrange(1, most + 1)):
        told = step_to(source, value)
        if told is None:
            break
        path.append(told[0])
        value = told[1]
    return tuple(path) if path else a_path(source)


def shape_of(thing):
    """A text that is the same for two things only where they are the same kind by kind."""
    return repr(thing)


def a_test(source, document, depth=2):
    """A TEST, oftener of what stands in a DOCUMENT than not."""
    words = ("there", "like", "below", "above") + (("not", "and", "or") if depth > 0 else ())
    word = source.choice(words)
    if word == "not":
        return ("not", a_test(source, document, depth - 1))
    if word in ("and", "or"):
        return (word, tuple([a_test(source, document, depth - 1) for _ in range(source.randrange(4))]))
    path = a_path_in(source, document)
    if word == "there":
        return ("there", path)
    if word == "like":
        return ("like", path, a_value(source, 1))
    return (word, path, a_plain(source))


def a_deed(source, document):
    """A DEED, oftener one that can be done at a DOCUMENT than not."""
    word = source.choice(("set", "unset", "add", "push", "pull", "rename"))
    path = a_path_in(source, document)
    if word == "unset":
        return ("unset", path)
    if word == "add":
        return ("add", path, source.choice((0, 1, -7, 10 ** 20)))
    if word == "rename":
        return ("rename", path[:-1] + (("field", source.choice(WORDS)),), source.choice(WORDS))
    return (word, path, a_value(source, 2))


def a_change(source, document):
    test = a_test(source, document) if source.randrange(3) == 0 else None
    return (test, tuple([a_deed(source, document) for _ in range(source.randrange(1, 4))]))


def swapped(thing, names):
    """A VALUE with other WORDS put for its fields."""
    if not isinstance(thing, tuple):
        return thing
    if thing[0] == "row":
        return ("row", tuple([swapped(part, names) for part in thing[1]]))
    return ("tree", tuple(sorted([(names[word], swapped(held, names)) for word, held in thing[1]])))


def swapped_path(path, names):
    return tuple([(step[0], names[step[1]]) + step[2:] if step[0] in ("field", "where") else step for step in path])


def swapped_place(place, names):
    return tuple([names[marker] if isinstance(marker, str) else marker for marker in place])


def swapped_test(test, names):
    if test[0] == "not":
        return ("not", swapped_test(test[1], names))
    if test[0] in ("and", "or"):
        return (test[0], tuple([swapped_test(part, names) for part in test[1]]))
    worth = tuple([swapped(part, names) for part in test[2:]])
    return (test[0], swapped_path(test[1], names)) + worth


def swapped_deed(deed, names):
    path = swapped_path(deed[1], names)
    if deed[0] == "rename":
        return ("rename", path, names[deed[2]])
    return (deed[0], path) + tuple([swapped(part, names) for part in deed[2:]])


def swapped_change(change, names):
    test, deeds = change
    return (test if test is None else swapped_test(test, names), tuple([swapped_deed(deed, names) for deed in deeds]))


# What is no PATH, no VALUE, no PLAIN, no WORD, no NUMBER: wrong parts of TESTS and DEEDS.
NO_PATHS = ((), [], "a", None, ("field", "a"), [("field", "a")], (["field", "a"],), (("field", "A"),), (("at", -1),),
            (("at", True),), (("each",), ("field",)))
NO_VALUES = (None, "A", "x" * 17, (), [], [1], ("row", [1]), ("row",), ("tree", (("b", 1), ("a", 1))), 1.5, (1, 2))
NO_PLAINS = NO_VALUES + (("row", ()), ("tree", ()))
NO_WORDS = ("", "A", "a1", "abcdefghi", 1, True, None, ("a",), ["a"])
NO_NUMBERS = (True, False, None, "1", "", (1,), [1], 1.0)
