import inspect
import unittest

from tests.samples import ANY_VALUES
from versionjudge import errors
from versionjudge.errors import NothingToRedo, NothingToUndo, VersionError

PARAMETERS = {
    "BadWord": "thing", "BadVersion": "thing", "BadRange": "thing", "BadCondition": "thing", "BadTarget": "thing",
    "BadNeed": "thing", "BadSight": "thing", "BadWorld": "thing", "BadAsks": "thing", "BadNumber": "thing",
    "BadChoice": "thing", "BadProblem": "thing", "BadBar": "thing", "BadLines": "thing", "BadStory": "at",
    "BadLock": "thing", "BadTargets": "thing", "BadDeed": "thing", "BadText": "at", "NotRight": "thing",
    "NoChoice": "certificate",
}
BARE = ["NothingToUndo", "NothingToRedo"]


class ErrorsTest(unittest.TestCase):
    def test_one_parameter_by_position_and_by_name_is_an_attribute(self):
        for name, parameter in PARAMETERS.items():
            made = getattr(errors, name)
            self.assertEqual(list(inspect.signature(made).parameters), [parameter], name)
            for value in ANY_VALUES:
                self.assertIs(getattr(made(value), parameter), value)
                self.assertIs(getattr(made(**{parameter: value}), parameter), value)
            for arguments in [(), (1, 2)]:
                with self.assertRaises(TypeError):
                    made(*arguments)

    def test_no_parameter(self):
        for made in (NothingToUndo, NothingToRedo):
            self.assertIsInstance(made(), VersionError)
            with self.assertRaises(TypeError):
                made(1)

    def test_base_classes(self):
        self.assertEqual(VersionError.__bases__, (Exception,))
        for name in [*PARAMETERS, *BARE]:
            self.assertEqual(getattr(errors, name).__bases__, (VersionError,), name)

    def test_there_are_these_classes_only(self):
        found = [name for name, value in vars(errors).items() if inspect.isclass(value)]
        self.assertEqual(sorted(found), sorted(["VersionError", *PARAMETERS, *BARE]))
        self.assertEqual(len(set(getattr(errors, name) for name in found)), len(found))

    def test_each_is_caught_as_itself_and_as_the_base_and_as_no_other(self):
        names = [*PARAMETERS, *BARE]
        for name in names:
            made = getattr(errors, name)
            error = made("x") if name in PARAMETERS else made()
            for other in names:
                self.assertEqual(isinstance(error, getattr(errors, other)), name == other)
            for kind in (made, VersionError, Exception):
                with self.assertRaises(kind):
                    raise error
            for kind in (ValueError, TypeError, LookupError, ArithmeticError, RuntimeError, AttributeError):
                self.assertNotIsInstance(error, kind)


if __name__ == "__main__":
    unittest.main()
