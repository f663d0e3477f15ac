"""[11], and what [4] says of errors."""

import unittest

from endsahead import errors

FIELDS = {
    "NoAnswer": ("place",), "NoCommand": ("line",), "NoEnding": (), "NoTree": ("index",), "NoWord": ("place",),
    "Nothing": (), "TooLong": ("most",), "TooMany": ("most",), "Wrong": ("place",),
}


class Errors(unittest.TestCase):

    def test_base_classes(self):
        self.assertEqual(errors.EndError.__bases__, (ValueError,))
        for name in FIELDS:
            self.assertTrue(issubclass(getattr(errors, name), errors.EndError), name)

    def test_none_is_a_subclass_of_another_one(self):
        for name in FIELDS:
            for other in FIELDS:
                if name != other:
                    self.assertFalse(issubclass(getattr(errors, name), getattr(errors, other)), (name, other))

    def test_each_class_has_its_own_name_and_place(self):
        for name in [*FIELDS, "EndError"]:
            self.assertEqual(getattr(errors, name).__name__, name)
            self.assertEqual(getattr(errors, name).__module__, "endsahead.errors")

    def test_fields_are_the_very_objects(self):
        values = [[], [1, [2]], {}, None, True, False, 0, -1, 10 ** 39, "", "a b", (), (1, []), errors.Nothing(), object()]
        for name, fields in FIELDS.items():
            for value in values:
                error = getattr(errors, name)(*[value for _ in fields])
                for field in fields:
                    self.assertIs(getattr(error, field), value)

    def test_a_list_that_is_kept_is_no_copy(self):
        kept = [1]
        error = errors.Wrong(kept)
        kept.append(2)
        self.assertEqual(error.place, [1, 2])

    def test_fields_of_two_errors_are_their_own(self):
        one, other = errors.NoTree(1), errors.NoTree(2)
        self.assertEqual([one.index, other.index], [1, 2])

    def test_arguments_are_asked_for(self):
        for name, fields in FIELDS.items():
            if fields:
                with self.assertRaises(TypeError):
                    getattr(errors, name)()

    def test_each_can_be_raised_and_caught(self):
        for name, fields in FIELDS.items():
            with self.assertRaises(getattr(errors, name)):
                raise getattr(errors, name)(*[7 for _ in fields])


if __name__ == "__main__":
    unittest.main()
