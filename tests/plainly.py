"""What DOC.md tells of MOVES, ENTRIES, ROWS, MEETINGS, STREAMS and PLANS, done once more, as plainly as can be."""

from pathfolios.errors import NoId, NoKey, NoLead, NoMark, NoName
from pathfolios.finding import found_in
from pathfolios.meeting import meets
from tests.makers import shape_of


class CantLead(Exception):
    pass


def as_tree(fields):
    return ("tree", tuple(sorted(fields.items())))


def plain_moved(document, move):
    """[50], of a dict of fields; CantLead where it can't be LED."""
    word, field, *rest = move
    fields = dict(document[1])
    if word == "put":
        fields.setdefault(field, rest[0])
    elif field not in fields:
        return document
    elif word == "cut":
        del fields[field]
    elif word == "into":
        fields[field] = as_tree({rest[0]: fields[field]})
    elif word == "move":
        if rest[0] in fields:
            raise CantLead
        fields = {rest[0] if name == field else name: held for name, held in fields.items()}
    elif not isinstance(fields[field], tuple) or fields[field][0] != "tree":
        raise CantLead
    else:
        within = dict(fields[field][1])
        if rest[0] in within:
            if rest[0] in fields:
                raise CantLead
            fields[rest[0]] = within.pop(rest[0])
            fields[field] = as_tree(within)
    return as_tree(fields)


def plain_moved_or_none(document, move):
    try:
        return plain_moved(document, move)
    except CantLead:
        return None


def plain_view(stands):
    """The VIEW, a dict; NoLead of the least id that can't be LED."""
    documents, _, shapes = stands
    view = {}
    for holder, document, edition in sorted(documents, key=lambda row: row[0]):
        try:
            for move in [move for moves in shapes[edition:] for move in moves]:
                document = plain_moved(document, move)
        except CantLead:
            raise NoLead(holder, edition) from None
        view[holder] = document
    return view


def kind_of(plain):
    return {bool: 0, int: 1, str: 2}[type(plain)]


def plain_keys(document, path):
    keys = {shape_of((kind_of(held), held)): (kind_of(held), held)
            for _, held in found_in(document, path) if not isinstance(held, tuple)}
    return sorted(keys.values())


def plain_rows(stands, name):
    """The ROWS of an INDEX, found by asking each KEY of each DOCUMENT; or NoName."""
    indexes = [index for index in stands[1] if index[0] == name]
    if not indexes:
        raise NoName(name)
    _, path, _, test = indexes[0]
    return tuple(sorted([(key, holder) for holder, document in plain_view(stands).items()
                         if test is None or meets(document, test) for key in plain_keys(document, path)]))


def plain_behind(stands, entry):
    """What STANDS behind an ENTRY, of dicts by names."""
    documents = {part[0]: part for part in stands[0]}
    indexes = {part[0]: part for part in stands[1]}
    shapes = list(stands[2])
    word, *rest = entry
    if word == "put":
        documents[rest[0]] = tuple(rest)
    elif word == "gone":
        del documents[rest[0]]
    elif word == "index":
        indexes[rest[0]] = tuple(rest)
    elif word == "bare":
        del indexes[rest[0]]
    else:
        shapes.append(rest[0])
    return (tuple([documents[holder] for holder in sorted(documents)]),
            tuple([indexes[name] for name in sorted(indexes)]), tuple(shapes))


def plain_claim_fit(stands):
    plain_view(stands)
    for name, _, unique, _ in stands[1]:
        holders = {}
        for key, holder in plain_rows(stands, name):
            holders.setdefault(key, []).append(holder)
        for key in sorted(holders):
            if unique and len(holders[key]) > 1:
                raise NoKey(name, sorted(holders[key])[1])


def plain_let_in(stands, entry):
    """[28], refused in the order told."""
    word, name = entry[0], entry[1]
    if word == "put" and entry[3] > len(stands[2]):
        raise NoMark(entry[3])
    if word == "gone" and name not in dict([part[:2] for part in stands[0]]):
        raise NoId(name)
    if word == "bare" and name not in dict([part[:2] for part in stands[1]]):
        raise NoName(name)
    behind = plain_behind(stands, entry)
    plain_claim_fit(behind)
    return behind


def plain_stands(history):
    """What STANDS at each MARK of a HISTORY: a dict."""
    first, stands, entries = history
    told = {first: stands}
    for number, entry in enumerate(entries):
        stands = plain_behind(stands, entry)
        told[first + number + 1] = stands
    return told


def plain_meeting(stands, test):
    return {holder: document for holder, document in plain_view(stands).items() if meets(document, test)}


def plain_stream(history, test, since, upto):
    """[44], MARK by MARK, id by id."""
    stands = plain_stands(history)
    events = []
    for mark in range(since + 1, upto + 1):
        ahead = plain_meeting(stands[mark - 1], test)
        here = plain_meeting(stands[mark], test)
        for holder in sorted(set(ahead) | set(here)):
            if holder not in here:
                events.append(("out", mark, holder))
            elif holder not in ahead:
                events.append(("in", mark, holder, here[holder]))
            elif shape_of(ahead[holder]) != shape_of(here[holder]):
                events.append(("on", mark, holder, here[holder]))
    return tuple(events)


def plain_short(ahead, behind, events):
    """[45], [46], of two dicts of DOCUMENTS by ids: ahead of EVENTS and behind them."""
    told = []
    for holder in set([event[2] for event in events]):
        mark = [event[1] for event in events if event[2] == holder][-1]
        if holder in behind and holder not in ahead:
            told.append(("in", mark, holder, behind[holder]))
        elif holder in ahead and holder not in behind:
            told.append(("out", mark, holder))
        elif holder in ahead and shape_of(ahead[holder]) != shape_of(behind[holder]):
            told.append(("on", mark, holder, behind[holder]))
    return tuple(sorted(told, key=lambda event: event[1:3]))
