"""The classes of deeds: fields, creation and equality ([2], [5])."""

import inspect
import unittest

from forestrows import deeds
from forestrows.errors import NoDeed
from forestrows.forests import Forest

FIELDS = {
    "Put": ("name", "value", "parent", "rank"),
    "Move": ("name", "parent", "rank"),
    "Cut": ("name",),
    "Lift": ("name",),
    "Wrap": ("name", "value", "parent", "first", "last"),
    "Reverse": ("parent",),
    "SetValue": ("name", "value"),
}
ANYTHING = [None, True, -1, 10 ** 40, "", "No Name", b"a", [], [1, [2]], (), {}, {"a": []}, Forest([]), Forest, len]


def class_of(name):
    return getattr(deeds, name)


def plain(name):
    """A deed of this class with its fields' names in its fields."""
    return class_of(name)(*FIELDS[name])


class Fields(unittest.TestCase):
    def test_there_are_seven_classes(self):
        found = [name for name, thing in vars(deeds).items() if isinstance(thing, type)]
        self.assertEqual(sorted(found), sorted(FIELDS))

    def test_parameters_in_their_order(self):
        for name, fields in FIELDS.items():
            self.assertEqual(tuple(inspect.signature(class_of(name)).parameters), fields)

    def test_by_place(self):
        for name, fields in FIELDS.items():
            given = [[field] for field in fields]
            deed = class_of(name)(*given)
            for field, thing in zip(fields, given):
                self.assertIs(getattr(deed, field), thing)

    def test_by_keyword(self):
        for name, fields in FIELDS.items():
            given = {field: [field] for field in reversed(fields)}
            deed = class_of(name)(**given)
            for field in fields:
                self.assertIs(getattr(deed, field), given[field])

    def test_there_are_no_other_fields(self):
        for name, fields in FIELDS.items():
            self.assertEqual(sorted(vars(plain(name))), sorted(fields))

    def test_creating_one_raises_no_error(self):
        for name, fields in FIELDS.items():
            for thing in ANYTHING:
                deed = class_of(name)(*[thing for field in fields])
                for field in fields:
                    self.assertIs(getattr(deed, field), thing)

    def test_what_is_given_is_kept_and_not_copied(self):
        parent = ["a"]
        deed = deeds.Move("b", parent, 0)
        parent.append("c")
        self.assertIs(deed.parent, parent)
        self.assertEqual(deed.parent, ["a", "c"])

    def test_none_derives_from_another_one(self):
        for one in FIELDS:
            for other in FIELDS:
                self.assertIs(issubclass(class_of(one), class_of(other)), one == other)


class Equality(unittest.TestCase):
    def test_equal_fields(self):
        for name in FIELDS:
            self.assertIs(plain(name) == plain(name), True)
            self.assertIs(plain(name) != plain(name), False)

    def test_any_other_field(self):
        for name, fields in FIELDS.items():
            for place in range(len(fields)):
                given = list(fields)
                given[place] = "other"
                other = class_of(name)(*given)
                self.assertIs(plain(name) == other, False)
                self.assertIs(other == plain(name), False)
                self.assertIs(plain(name) != other, True)

    def test_fields_are_compared_as_python_does(self):
        self.assertTrue(deeds.Put("a", 1, None, 0) == deeds.Put("a", True, None, False))
        self.assertTrue(deeds.Cut([1, (2,)]) == deeds.Cut([True, (2,)]))
        self.assertFalse(deeds.Cut([1]) == deeds.Cut((1,)))
        self.assertFalse(deeds.Cut("a") == deeds.Cut(b"a"))
        self.assertFalse(deeds.Reverse(None) == deeds.Reverse(False))
        self.assertTrue(deeds.Cut(deeds.Lift("a")) == deeds.Cut(deeds.Lift("a")))
        self.assertFalse(deeds.Cut(deeds.Lift("a")) == deeds.Cut(deeds.Cut("a")))

    def test_other_classes(self):
        for one in FIELDS:
            for other in FIELDS:
                if one != other:
                    alike = [class_of(name)(*["a"] * len(FIELDS[name])) for name in (one, other)]
                    self.assertIs(alike[0] == alike[1], False)
                    self.assertIs(alike[0] != alike[1], True)

    def test_anything_else(self):
        for name, fields in FIELDS.items():
            for thing in [*ANYTHING, fields, list(fields), name, class_of(name), NoDeed("name")]:
                self.assertIs(plain(name) == thing, False)
                self.assertIs(thing == plain(name), False)
                self.assertIs(plain(name) != thing, True)


if __name__ == "__main__":
    unittest.main()
