"""What many tests ask of calls: what is told, what is refused, and that what is handed in stays as it was."""

import copy
import unittest

from tests.makers import shape_of


def tree(**fields):
    return ("tree", tuple(sorted(fields.items())))


def row(*things):
    return ("row", things)


def at(*words):
    """A PATH of fields; a NUMBER for "at", * for "each"."""
    steps = {int: lambda word: ("at", word), str: lambda word: ("each",) if word == "*" else ("field", word)}
    return tuple([steps[type(word)](word) for word in words])


def refusal_of(call, *given, **named):
    """A pair of the name of the refusal of a call and its fields, in order; None where it isn't refused."""
    try:
        call(*given, **named)
    except (ValueError, LookupError) as error:
        return type(error).__name__, tuple(vars(error).values())
    return None


class Checks(unittest.TestCase):
    def told(self, answer, call, *given, **named):
        """A call tells just this, kind by kind, and turns nothing that it is handed."""
        ahead = copy.deepcopy((given, named))
        told = call(*given, **named)
        self.assertEqual(shape_of(told), shape_of(answer))
        self.assertEqual(shape_of((given, named)), shape_of(ahead))

    def refused(self, name, fields, call, *given, **named):
        """A call is refused just so, and turns nothing that it is handed."""
        ahead = copy.deepcopy((given, named))
        self.assertEqual(shape_of(refusal_of(call, *given, **named)), shape_of((name, fields)))
        self.assertEqual(shape_of((given, named)), shape_of(ahead))

    def does(self, plain, call, *given, **named):
        """A call is refused, or tells, just what another one is or does that is handed the same."""
        refusal = refusal_of(plain, *given, **named)
        if refusal is None:
            self.told(plain(*given, **named), call, *given, **named)
        else:
            self.refused(*refusal, call, *given, **named)
