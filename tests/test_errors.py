import inspect
import unittest

from samples import NO_INTEGERS, NO_SPANS, nested
from widerkeys import errors

PARAMETERS = {
    "BadKind": ("one", "other"),
    "BadNumber": ("value",),
    "BadBits": ("value",),
    "BadText": ("value",),
    "BadSpan": ("value",),
    "BadWorld": ("value",),
    "BadPlan": ("index",),
    "BadRun": ("index",),
    "BadTask": ("value",),
    "BadPlace": ("value",),
    "BadBacks": ("value",),
    "BadRows": ("value",),
    "BadEvent": ("value",),
    "NotNow": ("event",),
    "NoCell": ("value",),
    "NothingToUndo": (),
    "Unsafe": ("run",),
    "BadLine": ("value",),
}

ANY_VALUES = NO_INTEGERS + NO_SPANS + (7, -10 ** 17, nested(20))


class ErrorsTest(unittest.TestCase):
    def test_width_error_is_a_value_error(self):
        self.assertEqual(errors.WidthError.__bases__, (ValueError,))
        self.assertEqual(errors.WidthError.__module__, "widerkeys.errors")

    def test_no_error_is_missing_and_none_is_there_beyond(self):
        classes = [name for name, _ in inspect.getmembers(errors, inspect.isclass)]
        self.assertEqual(sorted(classes), sorted(list(PARAMETERS) + ["WidthError"]))

    def test_each_derives_directly_from_width_error(self):
        for name in PARAMETERS:
            with self.subTest(name):
                self.assertEqual(getattr(errors, name).__bases__, (errors.WidthError,))
                self.assertEqual(getattr(errors, name).__module__, "widerkeys.errors")

    def test_the_parameters_have_the_names_shown(self):
        for name, names in PARAMETERS.items():
            with self.subTest(name):
                self.assertEqual(tuple(inspect.signature(getattr(errors, name)).parameters), names)

    def test_arguments_are_kept_by_position(self):
        for name, names in PARAMETERS.items():
            for value in ANY_VALUES:
                with self.subTest(name, value=value):
                    values = [value, [value]][:len(names)]
                    error = getattr(errors, name)(*values)
                    self.assert_keeps(error, names, values)

    def test_arguments_are_kept_by_name(self):
        for name, names in PARAMETERS.items():
            for value in ANY_VALUES:
                with self.subTest(name, value=value):
                    values = [value, [value]][:len(names)]
                    told = dict(reversed(list(zip(names, values))))
                    error = getattr(errors, name)(**told)
                    self.assert_keeps(error, names, values)

    def assert_keeps(self, error, names, values):
        self.assertEqual(vars(error), dict(zip(names, values)))
        for name, value in zip(names, values):
            self.assertIs(getattr(error, name), value)

    def test_each_can_be_raised_and_caught(self):
        for name, names in PARAMETERS.items():
            with self.subTest(name), self.assertRaises(errors.WidthError) as caught:
                raise getattr(errors, name)(*[None for _ in names])
            self.assertIsInstance(caught.exception, ValueError)

    def test_no_error_catches_another_one(self):
        for name in PARAMETERS:
            for other in PARAMETERS:
                if name != other:
                    self.assertFalse(issubclass(getattr(errors, name), getattr(errors, other)))


if __name__ == "__main__":
    unittest.main()
