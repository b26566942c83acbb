"""Point 5: the error classes, their order, constructors and attributes."""

import inspect
import unittest

from everypoint import errors
from support import BIG, ERROR_NAMES, SpaceTest

PARAMETERS = {
    "TextFault": ["line", "place"],
    "RunFault": ["line", "place", "why"],
    "BadRow": ["number"],
    "TooLarge": ["what"],
    "NoParting": ["why"],
}
SAMPLES = {"line": 3, "place": 0, "why": "taken", "number": BIG, "what": "planes"}


class TestErrors(SpaceTest):

    def test_classes_stand_directly_under_space_error(self):
        self.assertEqual(errors.SpaceError.__bases__, (ValueError,))
        for name in ERROR_NAMES:
            self.assertEqual(getattr(errors, name).__bases__, (errors.SpaceError,), name)

    def test_there_are_no_other_classes(self):
        found = [name for name, value in vars(errors).items() if inspect.isclass(value)]
        self.assertEqual(found, ["SpaceError"] + list(ERROR_NAMES))

    def test_constructors_without_arguments(self):
        for name in ("SpaceError",) + ERROR_NAMES:
            if name not in PARAMETERS:
                self.assertIsInstance(getattr(errors, name)(), errors.SpaceError)

    def test_attributes_hold_the_arguments_unchanged(self):
        for name, parameters in PARAMETERS.items():
            error_class = getattr(errors, name)
            given = {parameter: SAMPLES[parameter] for parameter in parameters}
            for error in (error_class(**given), error_class(*given.values())):
                self.assertEqual(vars(error), given)
                for parameter in parameters:
                    self.assert_same(getattr(error, parameter), given[parameter])

    def test_parameters_have_no_defaults(self):
        for name, parameters in PARAMETERS.items():
            signature = inspect.signature(getattr(errors, name).__init__)
            self.assertEqual(list(signature.parameters), ["self"] + parameters)
            for parameter in signature.parameters.values():
                self.assertIs(parameter.default, inspect.Parameter.empty)
            with self.assertRaises(TypeError):
                getattr(errors, name)()

    def test_errors_can_be_raised_and_caught(self):
        for name in ERROR_NAMES:
            arguments = [SAMPLES[parameter] for parameter in PARAMETERS.get(name, [])]

            def fail():
                raise getattr(errors, name)(*arguments)
            self.assert_error(name, fail)


if __name__ == "__main__":
    unittest.main()
