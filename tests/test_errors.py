import unittest

from leastcode import errors
from helping import check_same

NAMES = {
    "BadName": ("value",),
    "BadNumber": ("value",),
    "BadPrice": ("value",),
    "BadPlace": ("value",),
    "BadSlots": ("value",),
    "Twice": ("name",),
    "TooMany": ("most",),
    "Unmade": ("place", "name"),
    "MadeAgain": ("place", "name"),
    "NoRoom": ("place",),
    "BadSum": ("at",),
    "BadWork": ("value",),
    "BadInput": ("name",),
    "BadCode": ("part",),
    "BadText": ("line", "word"),
    "BadLine": ("word",),
}


class Errors(unittest.TestCase):
    def test_there_are_just_these(self):
        found = {name for name, value in vars(errors).items() if isinstance(value, type)}
        self.assertEqual(found, set(NAMES) | {"LeastError"})

    def test_each_is_directly_below_the_base(self):
        self.assertEqual(errors.LeastError.__bases__, (ValueError,))
        for name in NAMES:
            self.assertEqual(getattr(errors, name).__bases__, (errors.LeastError,), name)

    def test_each_is_defined_in_its_file(self):
        for name in [*NAMES, "LeastError"]:
            self.assertEqual(getattr(errors, name).__module__, "leastcode.errors")

    def test_the_base_is_made_as_a_value_error(self):
        for values in ((), ("a",), ("a", 1)):
            self.assertEqual(errors.LeastError(*values).args, values)
            self.assertEqual(str(errors.LeastError(*values)), str(ValueError(*values)))

    def test_attributes_by_position_and_by_name(self):
        for name, parts in NAMES.items():
            for values in (("x", 1), (None, ("loop", 0)), ([1], {"a": None})):
                wanted = dict(zip(parts, values))
                made = getattr(errors, name)
                check_same(self, vars(made(*values[:len(parts)])), wanted)
                check_same(self, vars(made(**wanted)), wanted)

    def test_attributes_are_the_very_values(self):
        value = [1]
        self.assertIs(errors.BadWork(value).value, value)

    def test_too_few_or_too_many_values(self):
        for name, parts in NAMES.items():
            for many in (len(parts) - 1, len(parts) + 1):
                with self.assertRaises(TypeError):
                    getattr(errors, name)(*range(many))

    def test_they_can_be_caught(self):
        for name, parts in NAMES.items():
            for base in (ValueError, errors.LeastError, getattr(errors, name)):
                with self.assertRaises(base):
                    raise getattr(errors, name)(*parts)


if __name__ == "__main__":
    unittest.main()
