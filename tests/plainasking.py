"""What DOC.md tells of ASKER'S ROWS, done once more: MARKS are sought through, all of them."""

from tests.makers import shape_of
from tests.plainly import plain_stands


def plain_fits(history, row, mark):
    """[72], of a MARK of a HISTORY."""
    first, _, entries = history
    if row[0] == "write":
        return mark > first and shape_of(entries[mark - first - 1]) == shape_of(row[1])
    held = {holder: document for holder, document, _ in plain_stands(history)[mark][0]}
    return row[1] not in held if row[2] is None else shape_of(held.get(row[1])) == shape_of(row[2])


def plain_ways(history, rows):
    """All tuples of MARKS for rows that FIT: a list."""
    first, _, entries = history
    ways = [()]
    for row in rows:
        marks = [mark for mark in range(first, first + len(entries) + 1) if plain_fits(history, row, mark)]
        ways = [way + (mark,) for way in ways for mark in marks
                if not way or (mark > way[-1] if row[0] == "write" else mark >= way[-1])]
    return ways


def plain_judged(history, rows):
    """[73]: the least of all ways is, row by row, the least."""
    for many in range(len(rows), -1, -1):
        ways = plain_ways(history, rows[:many])
        if ways:
            least = min(ways)
            return ("fits", least) if many == len(rows) else ("bar", many, least)
    return None


def some_rows(source, history, most=5):
    """ASKER'S ROWS, oftener ones that FIT than not."""
    first, _, entries = history
    stands = plain_stands(history)
    mark = source.randrange(first, first + len(entries) + 1)
    rows = []
    for _ in range(source.randrange(most + 1)):
        if source.randrange(6) == 0:
            mark = source.randrange(first, first + len(entries) + 1)
        if source.randrange(2) and entries:
            number = source.randrange(mark - first, len(entries)) if mark - first < len(entries) else 0
            rows.append(("write", entries[number]))
            mark = first + number + 1
        else:
            mark = source.randrange(mark, first + len(entries) + 1)
            held = {holder: document for holder, document, _ in stands[mark][0]}
            holder = source.choice(list(held) + ["a", "zz"])
            rows.append(("read", holder, held.get(holder)))
    return tuple(rows)
