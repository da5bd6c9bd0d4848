"""What DOC.md tells of JOINS, done once more, case by case as it is told."""

from tests.makers import shape_of
from tests.plainly import plain_claim_fit, plain_view


def are_alike(one, other):
    return shape_of(one) == shape_of(other)


def is_a_tree(thing):
    return isinstance(thing, tuple) and thing[0] == "tree"


def plain_join(b, o, t):
    """[54], of three things, each None where it is MISSING."""
    if are_alike(o, t):
        return o, o, []
    if are_alike(b, o):
        return t, t, []
    if are_alike(b, t):
        return o, o, []
    if not (is_a_tree(o) and is_a_tree(t)):
        return o, t, [()]
    fields = {"b": dict(b[1]) if is_a_tree(b) else {}, "o": dict(o[1]), "t": dict(t[1])}
    sides = ({}, {})
    places = []
    for word in set(fields["o"]) | set(fields["t"]):
        *both, within = plain_join(*[fields[name].get(word) for name in "bot"])
        for side, held in zip(sides, both):
            side.update({} if held is None else {word: held})
        places += [(word, *place) for place in within]
    ours, theirs = [("tree", tuple(sorted(side.items(), key=lambda pair: pair[0]))) for side in sides]
    return ours, theirs, places


def plain_joined(b, o, t):
    ours, theirs, places = plain_join(b, o, t)
    return ours, theirs, tuple(sorted(places))


def plain_joined_rows(b, o, t):
    ours, theirs, clashes = [], [], []
    for holder in sorted(set([row[0] for rows in (b, o, t) for row in rows])):
        one, other, places = plain_joined(*[dict(rows).get(holder) for rows in (b, o, t)])
        ours += [(holder, one)] if one is not None else []
        theirs += [(holder, other)] if other is not None else []
        clashes += [(holder, place) for place in places]
    return tuple(ours), tuple(theirs), tuple(clashes)


def plain_joined_stands(b, o, t):
    views = [tuple(plain_view(stands).items()) for stands in (b, o, t)]
    ours, theirs, clashes = plain_joined_rows(*views)
    sides = [(tuple([(*row, len(o[2])) for row in rows]), o[1], o[2]) for rows in (ours, theirs)]
    for side in sides:
        plain_claim_fit(side)
    return sides[0], sides[1], clashes
