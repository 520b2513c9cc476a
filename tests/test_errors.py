"""The errors: their base classes and their fields."""

import unittest

from bestodds import errors

BASES = {
    "BestoddsError": ValueError,
    "InvalidRatio": errors.BestoddsError,
    "InvalidLine": errors.BestoddsError,
    "InvalidSystem": errors.BestoddsError,
    "InvalidWord": errors.BestoddsError,
    "SentenceTooLarge": errors.BestoddsError,
    "WeightTooGreat": errors.BestoddsError,
    "BenchError": errors.BestoddsError,
    "NoSuchState": errors.BenchError,
    "NoSuchChoice": errors.BenchError,
    "TooManyChanges": errors.BenchError,
    "InvalidName": errors.BenchError,
    "TooManyWishes": errors.BenchError,
    "UnknownName": errors.BenchError,
}

FIELDS = {
    "InvalidLine": ("number", 3),
    "InvalidSystem": ("fault", ("ends", 1, 0)),
    "InvalidWord": ("number", 0),
    "NoSuchState": ("state", -1),
    "NoSuchChoice": ("number", 6),
    "InvalidName": ("name", "Ab"),
    "UnknownName": ("name", ""),
}


class ErrorsTest(unittest.TestCase):

    def test_each_class_has_just_its_base_class(self):
        for name, base in BASES.items():
            with self.subTest(name):
                self.assertEqual(getattr(errors, name).__bases__, (base,))

    def test_each_class_is_defined_in_the_file(self):
        for name in BASES:
            with self.subTest(name):
                self.assertEqual(getattr(errors, name).__module__, "bestodds.errors")
                self.assertEqual(getattr(errors, name).__name__, name)

    def test_an_error_holds_the_field_it_was_made_with(self):
        for name, (field, value) in FIELDS.items():
            made = getattr(errors, name)(value)
            with self.subTest(name):
                self.assertEqual(vars(made), {field: value})

    def test_the_field_can_be_passed_by_its_name(self):
        for name, (field, value) in FIELDS.items():
            made = getattr(errors, name)(**{field: value})
            with self.subTest(name):
                self.assertEqual(getattr(made, field), value)

    def test_an_error_with_a_field_is_not_made_without_it(self):
        for name in FIELDS:
            with self.subTest(name), self.assertRaises(TypeError):
                getattr(errors, name)()

    def test_the_other_errors_are_made_without_arguments(self):
        for name in sorted(set(BASES) - set(FIELDS)):
            with self.subTest(name):
                self.assertEqual(vars(getattr(errors, name)()), {})

    def test_all_are_caught_as_the_base_class(self):
        for name in BASES:
            made = getattr(errors, name)(*([FIELDS[name][1]] if name in FIELDS else []))
            with self.subTest(name), self.assertRaises(errors.BestoddsError):
                raise made


if __name__ == "__main__":
    unittest.main()
