"""VALUES, PATHS, TESTS and CHANGES read from texts; NoText of what isn't written just so."""

from pathfolios.changes import DEED_FORMS, ends_in_field
from pathfolios.cursors import Cursor
from pathfolios.probes import TEST_FORMS
from pathfolios.words import FIGURES, LETTERS, is_text, is_word


def value_read(text):
    """The VALUE that a text writes."""
    return read_whole(text, "value", read_value)


def path_read(text):
    """The PATH that a text writes."""
    return read_whole(text, "path", read_path)


def test_read(text):
    """The TEST that a text writes."""
    return read_whole(text, "test", read_test)


def change_read(text):
    """The CHANGE that a text writes."""
    return read_whole(text, "change", read_change)


def read_whole(text, word, read_one):
    """What a text writes from its first sign to its last."""
    cursor = Cursor(text, word)
    thing = read_one(cursor)
    cursor.claim(cursor.is_through())
    return thing


def read_value(cursor):
    """A VALUE that comes next."""
    if cursor.take_if("["):
        things = read_listed(cursor, "]", read_value)
        cursor.take("]")
        return ("row", things)
    if cursor.take_if("{"):
        fields = read_listed(cursor, "}", read_field)
        cursor.claim(do_rise(fields))
        cursor.take("}")
        return ("tree", fields)
    return read_plain(cursor)


def read_field(cursor):
    """A pair (WORD, VALUE) that comes next."""
    word = read_word(cursor)
    cursor.take(":")
    return (word, read_value(cursor))


def do_rise(fields):
    """Whether pairs (WORD, VALUE) rise by unlike WORDS."""
    words = [word for word, held in fields]
    return all([word < other for word, other in zip(words, words[1:])])


def read_listed(cursor, end, read_one):
    """A tuple of what comes next with commas between, up to the sign at its end; () where that comes at once."""
    if cursor.sees(end):
        return ()
    return read_parted(cursor, ",", read_one)


def read_parted(cursor, sign, read_one):
    """A tuple of the things, one or more, that come next with a sign between."""
    things = [read_one(cursor)]
    while cursor.take_if(sign):
        things.append(read_one(cursor))
    return tuple(things)


def read_plain(cursor):
    """A PLAIN that comes next."""
    if cursor.take_if('"'):
        text = cursor.take_all(LETTERS + FIGURES)
        cursor.claim(is_text(text))
        cursor.take('"')
        return text
    word = cursor.take_all(LETTERS)
    if not word:
        return read_number(cursor)
    cursor.claim(word == "yes" or word == "no")
    return word == "yes"


def read_number(cursor):
    """A NUMBER that comes next."""
    if cursor.take_if("-"):
        number = read_count(cursor)
        cursor.claim(number > 0)
        return -number
    return read_count(cursor)


def read_count(cursor):
    """A NUMBER from 0 on that comes next."""
    figures = cursor.take_all(FIGURES)
    cursor.claim(figures == "0" or figures[:1] > "0")
    return int(figures)


def read_word(cursor):
    """A WORD that comes next."""
    word = cursor.take_all(LETTERS)
    cursor.claim(is_word(word))
    return word


def read_path(cursor):
    """A PATH that comes next."""
    return read_parted(cursor, "/", read_step)


def read_step(cursor):
    """A STEP that comes next."""
    if cursor.take_if("#"):
        return ("at", read_count(cursor))
    if cursor.take_if("*"):
        return ("each",)
    if not cursor.take_if("["):
        return ("field", read_word(cursor))
    word = read_word(cursor)
    cursor.take("=")
    plain = read_plain(cursor)
    cursor.take("]")
    return ("where", word, plain)


def read_test(cursor):
    """A TEST that comes next."""
    word = cursor.take_all(LETTERS)
    cursor.claim(word in TEST_FORMS)
    return read_parts(cursor, word, TEST_FORMS[word])


def read_change(cursor):
    """A CHANGE that comes next."""
    test = None if cursor.sees(">") else read_test(cursor)
    cursor.take(">")
    return (test, read_parted(cursor, ";", read_deed))


def read_deed(cursor):
    """A DEED that comes next."""
    word = cursor.take_all(LETTERS)
    cursor.claim(word in DEED_FORMS)
    return read_parts(cursor, word, DEED_FORMS[word])


def read_parts(cursor, word, kinds):
    """The tuple of a word that was read and of the parts of these kinds in brackets that come next."""
    cursor.take("(")
    parts = [word]
    for number, kind in enumerate(kinds):
        if number > 0:
            cursor.take(",")
        parts.append(read_part(cursor, kind))
    cursor.take(")")
    return tuple(parts)


def read_part(cursor, kind):
    """A part of a TEST or of a DEED that comes next, by its kind."""
    if kind == "path":
        return read_path(cursor)
    if kind == "fieldpath":
        path = read_path(cursor)
        cursor.claim(ends_in_field(path))
        return path
    if kind == "value":
        return read_value(cursor)
    if kind == "plain":
        return read_plain(cursor)
    if kind == "number":
        return read_number(cursor)
    if kind == "word":
        return read_word(cursor)
    if kind == "test":
        return read_test(cursor)
    return read_listed(cursor, ")", read_test)
