"""The desk: rows, texts, asked of a STORE."""

from pathfolios.doing import do_deed
from pathfolios.errors import NoRow, NoText
from pathfolios.pathtexts import value_text
from pathfolios.rowtexts import row_line
from pathfolios.store import Store
from pathfolios.wordings import line_read


class Desk:
    """A STORE, at first none, that is asked by rows."""

    def __init__(self):
        self.store = None

    def say(self, asking):
        """The answer to a row, any text; or NoRow, or as the STORE refuses."""
        row = row_by(asking, "store")
        if row is not None:
            self.store = Store(row[1])
            return "ok"
        if self.store is None:
            raise NoRow(asking)
        row = row_by(asking, "question")
        if row is not None:
            return answer_of(self.store, row)
        row = row_by(asking, "deed")
        if row is None:
            raise NoRow(asking)
        return told_text(do_deed(self.store, row))


def row_by(asking, form):
    """The tuple of a form that a text writes; None where it writes none."""
    try:
        return line_read(asking, 0, form)
    except NoText:
        return None


def told_text(told):
    """What a deed told, as a text."""
    if told is None:
        return "ok"
    if isinstance(told, tuple):
        return "done"
    if isinstance(told, bool):
        return "yes" if told else "no"
    return str(told)


def answer_of(store, row):
    """What a STORE answers to a question, as a text."""
    word = row[0]
    if word == "undo":
        return row_line(store.undo())
    if word == "count":
        return str(len(store))
    if word == "log":
        return str(store)
    if word == "houses":
        return store.houses_text()
    if word == "floor":
        return str(store.floor())
    if word == "mark":
        return str(store.mark_of(row[1]))
    if word == "ask":
        return pairs_text(store.ask(row[1], row[2], mark=row[3]))
    if word == "rows":
        return str(len(store.rows_at(row[1], row[2])))
    return " ".join(store.branches()) or "-"


def pairs_text(pairs):
    """Pairs (id, DOCUMENT) as a text."""
    return " / ".join([holder + " " + value_text(document) for holder, document in pairs]) or "-"
