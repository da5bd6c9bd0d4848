"""PLANS for TESTS, and what is ASKED through one."""

from pathfolios.asks import in_order
from pathfolios.keys import rows_of
from pathfolios.leading import view_of
from pathfolios.meeting import meets
from pathfolios.values import is_like, is_plain, key_of

BOUNDING_WORDS = ("like", "below", "above")


def plans_for(stands, test):
    """The PLANS FOR a TEST at what STANDS: a tuple, ("all",) first."""
    conjuncts = conjuncts_of(test)
    plans = [("all",)]
    for index in stands[1]:
        if not is_index_let(index, conjuncts):
            continue
        for conjunct in conjuncts:
            plan = plan_by(index, conjunct)
            if plan is not None and plan not in plans:
                plans.append(plan)
    return tuple(plans)


def conjuncts_of(test):
    """A list of the CONJUNCTS of a TEST, in order."""
    if test[0] != "and":
        return [test]
    return [test] + [conjunct for part in test[1] for conjunct in conjuncts_of(part)]


def is_index_let(index, conjuncts):
    """Whether the test of an INDEX, if it has one, is one of these CONJUNCTS."""
    test = index[3]
    return test is None or any([is_like(test, conjunct) for conjunct in conjuncts])


def is_bounding(conjunct, path):
    """Whether a CONJUNCT bounds the PLAINS that just this PATH finds."""
    return conjunct[0] in BOUNDING_WORDS and is_like(conjunct[1], path) and is_plain(conjunct[2])


def plan_by(index, conjunct):
    """The PLAN through an INDEX that a CONJUNCT asks for; None where it doesn't bound what the INDEX finds."""
    name, path, _, _ = index
    if not is_bounding(conjunct, path):
        return None
    word = conjunct[0]
    key = key_of(conjunct[2])
    return ("index", name, None if word == "below" else key, None if word == "above" else key)


def plan_ids(stands, plan):
    """The IDS of a PLAN at what STANDS: a rising tuple."""
    if plan[0] == "all":
        return tuple([row[0] for row in stands[0]])
    _, name, low, high = plan
    return tuple(sorted(set([holder for key, holder in rows_of(stands, name) if is_within(key, low, high)])))


def is_within(key, low, high):
    """Whether a KEY is no less than low and no more than high, each where it isn't None."""
    return (low is None or key >= low) and (high is None or key <= high)


def asked_by(stands, test, plan, *, order=None):
    """What is ASKED by a TEST of what STANDS through a PLAN that it LETS, in order."""
    view = dict(view_of(stands))
    pairs = [(holder, view[holder]) for holder in plan_ids(stands, plan)]
    return in_order([(holder, document) for holder, document in pairs if meets(document, test)], order)
