"""The errors: their fields, told(), and from what they derive ([2], the interface)."""

import unittest

from forestrows import errors
from forestrows.errors import ForestError

FIELDS = {
    "NoName": ("name",),
    "NoValue": ("value",),
    "NoForest": ("place", "why"),
    "Twice": ("name",),
    "NoNode": ("name",),
    "NoPlace": ("place",),
    "NoDeed": ("why",),
    "NoDeeds": ("place", "why"),
    "NoBound": ("most",),
    "Full": ("needed",),
    "NoTable": ("place", "why"),
    "NoCount": ("free",),
    "NoKey": ("place",),
    "NoLabel": ("word",),
    "NoRoute": ("place", "why"),
    "TooLarge": ("size",),
    "NoSpans": ("place",),
    "NoBack": (),
    "NoMark": ("name",),
    "BadText": ("place",),
}

TOLD = {
    "NoName": "refused noname",
    "NoValue": "refused novalue",
    "NoForest": "refused noforest",
    "Twice": "refused twice",
    "NoNode": "refused nonode",
    "NoPlace": "refused noplace",
    "NoDeed": "refused nodeed",
    "NoDeeds": "refused nodeeds",
    "NoBound": "refused nobound",
    "Full": "refused full",
    "NoTable": "refused notable",
    "NoCount": "refused nocount",
    "NoKey": "refused nokey",
    "NoLabel": "refused nolabel",
    "NoRoute": "refused noroute",
    "TooLarge": "refused toolarge",
    "NoSpans": "refused nospans",
    "NoBack": "refused noback",
    "NoMark": "refused nomark",
    "BadText": "refused badtext",
}


def made(name):
    """An error of this class, and what it was given."""
    given = [[name, field] for field in FIELDS[name]]
    return getattr(errors, name)(*given), given


class Families(unittest.TestCase):
    def test_there_are_twenty_and_their_base(self):
        classes = [name for name, thing in vars(errors).items() if isinstance(thing, type)]
        self.assertEqual(sorted(classes), sorted([*FIELDS, "ForestError"]))
        self.assertEqual(len(FIELDS), 20)

    def test_the_base_derives_from_value_error(self):
        self.assertEqual(ForestError.__bases__, (ValueError,))

    def test_each_derives_directly_from_the_base(self):
        for name in FIELDS:
            with self.subTest(name):
                self.assertEqual(getattr(errors, name).__bases__, (ForestError,))

    def test_none_derives_from_another_one(self):
        for one in FIELDS:
            for other in FIELDS:
                if one != other:
                    self.assertFalse(issubclass(getattr(errors, one), getattr(errors, other)), (one, other))

    def test_none_derives_from_other_errors_of_python(self):
        for name in FIELDS:
            for base in (LookupError, ArithmeticError, TypeError, RuntimeError, AttributeError, OSError):
                self.assertFalse(issubclass(getattr(errors, name), base), (name, base))

    def test_each_is_caught_by_the_base_and_by_value_error(self):
        for name in FIELDS:
            for base in (ForestError, ValueError):
                with self.subTest(name), self.assertRaises(base):
                    raise made(name)[0]


class Fields(unittest.TestCase):
    def test_fields_are_kept_as_given_by_place(self):
        for name, fields in FIELDS.items():
            error, given = made(name)
            for field, thing in zip(fields, given):
                with self.subTest(name, field=field):
                    self.assertIs(getattr(error, field), thing)

    def test_fields_are_kept_as_given_by_keyword(self):
        for name, fields in FIELDS.items():
            given = {field: [field] for field in reversed(fields)}
            error = getattr(errors, name)(**given)
            for field in fields:
                with self.subTest(name, field=field):
                    self.assertIs(getattr(error, field), given[field])

    def test_anything_can_be_kept(self):
        for thing in (None, True, -1, 10 ** 5000, "", b"", [], {}, (1, [2]), ForestError):
            self.assertIs(errors.NoName(thing).name, thing)
            self.assertIs(errors.NoForest(thing, "row").place, thing)

    def test_there_are_no_other_fields(self):
        for name, fields in FIELDS.items():
            with self.subTest(name):
                self.assertEqual(sorted(vars(made(name)[0])), sorted(fields))


class Told(unittest.TestCase):
    def test_words(self):
        self.assertEqual(sorted(TOLD), sorted(FIELDS))
        for name, text in TOLD.items():
            with self.subTest(name):
                self.assertEqual(made(name)[0].told(), text)

    def test_each_class_defines_it_itself(self):
        for name in [*FIELDS, "ForestError"]:
            with self.subTest(name):
                self.assertIn("told", vars(getattr(errors, name)))

    def test_of_the_base(self):
        self.assertEqual(ForestError().told(), "refused foresterror")


if __name__ == "__main__":
    unittest.main()
