"""The errors of the interface."""

from awaitrounds import errors
from tests.checks import Case

ARGUMENTS = {
    "NoPlace": "place", "BadProgram": "value", "TooLong": "limit", "TooMany": "limit", "NoEntry": "number",
    "NoProgram": "program", "BadPlan": "plan", "BadEvent": "event", "BadWish": "wish", "BadObservation": "value",
    "BadCompany": "value", "BadText": "position", "BadLine": "line", "NoName": "name",
}
WITHOUT = ("EmptyQueue", "NothingToUndo")
VALUES = (0, -1, 10 ** 5000, True, None, "x", "", (), (1, (2,)), [1, [2]], {"a": [None]})


class Errors(Case):
    def test_bases(self):
        self.assertEqual(errors.RoundError.__bases__, (ValueError,))
        for name in (*ARGUMENTS, *WITHOUT):
            self.assertEqual(getattr(errors, name).__bases__, (errors.RoundError,))
            self.assertEqual(getattr(errors, name).__module__, "awaitrounds.errors")

    def test_there_are_sixteen(self):
        self.assertEqual(len(ARGUMENTS) + len(WITHOUT), 16)
        found = [name for name in vars(errors) if isinstance(getattr(errors, name), type)]
        self.assertEqual(sorted(found), sorted((*ARGUMENTS, *WITHOUT, "RoundError")))

    def test_attributes_by_position_and_by_name(self):
        for name, argument in ARGUMENTS.items():
            for value in VALUES:
                for error in (getattr(errors, name)(value), getattr(errors, name)(**{argument: value})):
                    self.assertIs(getattr(error, argument), value)
                    self.assertEqual(list(vars(error)), [argument])
                    self.assertIsInstance(str(error), str)

    def test_an_argument_is_needed(self):
        for name in ARGUMENTS:
            with self.assertRaises(TypeError):
                getattr(errors, name)()

    def test_errors_without_arguments(self):
        for name in WITHOUT:
            self.assertEqual(vars(getattr(errors, name)()), {})
            with self.assertRaises(TypeError):
                getattr(errors, name)(1)

    def test_raised_and_caught(self):
        for name, argument in ARGUMENTS.items():
            with self.assertRaises(errors.RoundError) as caught:
                raise getattr(errors, name)([3])
            self.assertEqual(getattr(caught.exception, argument), [3])
