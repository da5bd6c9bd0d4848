"""[8] and the row "errors" of the interface."""

import unittest

from pathfolios import errors

FIELDS = {
    "NoPaper": ("FolioError", ("word", "at")),
    "NoChange": ("FolioError", ("word", "at")),
    "NoKey": ("FolioError", ("name", "holder")),
    "NoLead": ("FolioError", ("holder", "edition")),
    "NoTurn": ("FolioError", ("word",)),
    "Behind": ("FolioError", ("mark",)),
    "NoText": ("FolioError", ("row", "word")),
    "NoRow": ("FolioError", ("row",)),
    "NoId": ("LackError", ("holder",)),
    "NoMark": ("LackError", ("mark",)),
    "NoName": ("LackError", ("name",)),
    "NoHouse": ("LackError", ("house",)),
    "NoStep": ("LackError", ("number",)),
}


class Shy:
    """A thing that can't bear to be looked at."""

    def refuse(self, *told):
        raise AssertionError("a refusal looked at a thing that it keeps")

    __eq__ = __ne__ = __lt__ = __le__ = __gt__ = __ge__ = refuse
    __repr__ = __str__ = __bool__ = __len__ = __iter__ = __hash__ = __int__ = __index__ = __getattr__ = refuse
    __copy__ = __deepcopy__ = __contains__ = __getitem__ = refuse


class Refusals(unittest.TestCase):
    def test_the_bases(self):
        self.assertEqual(errors.FolioError.__bases__, (ValueError,))
        self.assertEqual(errors.LackError.__bases__, (LookupError,))

    def test_each_stands_straight_under_its_one_base(self):
        for name, (base, _) in FIELDS.items():
            with self.subTest(name):
                self.assertEqual(getattr(errors, name).__bases__, (getattr(errors, base),))

    def test_there_are_no_others(self):
        classes = [name for name, thing in vars(errors).items() if isinstance(thing, type)]
        self.assertEqual(sorted(classes), sorted([*FIELDS, "FolioError", "LackError"]))

    def test_none_is_caught_as_another(self):
        for name in FIELDS:
            for other in FIELDS:
                if name != other:
                    self.assertFalse(issubclass(getattr(errors, name), getattr(errors, other)))
            wrong = errors.LackError if FIELDS[name][0] == "FolioError" else errors.FolioError
            self.assertFalse(issubclass(getattr(errors, name), wrong))

    def test_each_defines_how_it_is_made(self):
        for name in FIELDS:
            self.assertIn("__init__", vars(getattr(errors, name)))

    def test_fields_by_place(self):
        for name, (_, fields) in FIELDS.items():
            things = [object() for _ in fields]
            error = getattr(errors, name)(*things)
            for field, thing in zip(fields, things):
                self.assertIs(getattr(error, field), thing, name)

    def test_fields_by_name_in_any_order(self):
        for name, (_, fields) in FIELDS.items():
            things = {field: object() for field in reversed(fields)}
            error = getattr(errors, name)(**things)
            for field, thing in things.items():
                self.assertIs(getattr(error, field), thing, name)
            self.assertEqual(sorted(vars(error)), sorted(fields), name)

    def test_neither_fewer_nor_more_fields(self):
        for name, (_, fields) in FIELDS.items():
            made = getattr(errors, name)
            self.assertRaises(TypeError, made, *fields[1:])
            self.assertRaises(TypeError, made, *fields, 1)
            self.assertRaises(TypeError, lambda: made(*fields, other=1))

    def test_the_very_things_are_kept(self):
        for name, (_, fields) in FIELDS.items():
            things = [[] for _ in fields]
            error = getattr(errors, name)(*things)
            for thing in things:
                thing.append(7)
            for field, thing in zip(fields, things):
                self.assertIs(getattr(error, field), thing, name)
                self.assertEqual(getattr(error, field), [7], name)

    def test_nothing_is_looked_at(self):
        for name, (_, fields) in FIELDS.items():
            made = getattr(errors, name)
            things = [Shy() for _ in fields]
            for error in (made(*things), made(**dict(zip(fields, things)))):
                with self.assertRaises(made):
                    raise error
                for field, thing in zip(fields, things):
                    self.assertIs(getattr(error, field), thing)

    def test_any_things_at_all(self):
        for thing in (None, True, 10 ** 59, "", (), [[]], ("row", ()), -1):
            for name, (_, fields) in FIELDS.items():
                error = getattr(errors, name)(*[thing for _ in fields])
                for field in fields:
                    self.assertIs(getattr(error, field), thing)


if __name__ == "__main__":
    unittest.main()
