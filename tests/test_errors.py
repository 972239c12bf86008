import unittest

from halfnoted import errors
from halfnoted.errors import Malformed, Mismatched, Refused, Unbounded, Unknown

FIELDS = ((Malformed, "at", 7), (Unknown, "name", "x"), (Mismatched, "number", 3), (Unbounded, "name", "depth"))


class ErrorTests(unittest.TestCase):
    def test_each_class_has_its_one_field(self):
        for kind, field, value in FIELDS:
            self.assertEqual(vars(kind(value)), {field: value})
            self.assertEqual(vars(kind(**{field: value})), {field: value})

    def test_the_field_takes_the_first_index_and_the_first_number(self):
        self.assertEqual(Malformed(0).at, 0)
        self.assertEqual(Mismatched(0).number, 0)

    def test_each_constructor_takes_one_argument(self):
        for kind, _, value in FIELDS:
            with self.assertRaises(TypeError):
                kind()
            with self.assertRaises(TypeError):
                kind(value, value)

    def test_each_class_is_a_direct_subclass_of_refused(self):
        for kind, _, _ in FIELDS:
            self.assertEqual(kind.__bases__, (Refused,))
        self.assertEqual(Refused.__bases__, (ValueError,))

    def test_an_error_is_an_instance_of_no_other_class(self):
        for kind, _, value in FIELDS:
            error = kind(value)
            self.assertIsInstance(error, Refused)
            self.assertIsInstance(error, ValueError)
            for other, _, _ in FIELDS:
                self.assertEqual(isinstance(error, other), other is kind)

    def test_each_error_can_be_raised_and_caught_as_refused(self):
        for kind, field, value in FIELDS:
            with self.assertRaises(Refused) as caught:
                raise kind(value)
            self.assertEqual(getattr(caught.exception, field), value)

    def test_the_classes_are_defined_in_the_module(self):
        for kind in (Refused, Malformed, Unknown, Mismatched, Unbounded):
            self.assertEqual(kind.__module__, "halfnoted.errors")
            self.assertIs(getattr(errors, kind.__name__), kind)


if __name__ == "__main__":
    unittest.main()
