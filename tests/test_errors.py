from drawclaims import errors
from drawclaims.ratios import Ratio
from tests.helpers import BASES, ERRORS, OTHER, ProgramTest

INPUT = {
    "InvalidNumber": ("number",), "InvalidRatio": ("value",), "InvalidShare": ("value",),
    "InvalidName": ("name",), "InvalidRows": ("index",), "NotRising": ("marks", "place"),
    "InvalidLimits": ("index",), "InvalidLooks": ("index",), "InvalidMarks": ("index",),
    "InvalidState": ("state",), "InvalidLines": ("index",), "InvalidSize": ("value",),
    "InvalidMarked": ("value",), "InvalidSeries": ("index",), "InvalidModulus": ("value",),
    "InvalidKeys": ("index",), "InvalidLayers": ("index",), "InvalidTables": ("name",),
    "InvalidDeeds": ("index",), "InvalidText": ("text",), "InvalidCommand": ("command",),
    "NotAPlan": ("value",), "NotClaims": ("value",), "NotFlipped": ("found",),
    "NotATable": ("value",), "NotASample": ("value",),
}
STATE = {
    "UnknownName": ("name",), "UnknownRow": ("key",), "KnownRow": ("key",), "SameRank": ("rank",),
    "Contradiction": ("key",), "NotHeld": ("found",), "Busy": (), "NothingToUndo": (),
}
LIMIT = {"TooFew": ("looked",), "TooFine": ("found",)}
GROUPS = (
    (errors.InputError, ValueError, INPUT),
    (errors.StateError, LookupError, STATE),
    (errors.LimitError, ArithmeticError, LIMIT),
)
VALUES = (
    0, 1, -5, 10 ** 299, "", "text", True, False, None, (), (1, (True, "a")), [], [1, [2]],
    {}, {"a": [1]}, b"a", Ratio(1, 2), OTHER, ValueError, ValueError("a"),
)


def each_error():
    for base, above, classes in GROUPS:
        for name, fields in classes.items():
            yield base, above, getattr(errors, name), fields


class ErrorsTest(ProgramTest):
    def test_there_are_no_others(self):
        named = sorted([*INPUT, *STATE, *LIMIT])
        self.assertEqual(sorted(found.__name__ for found in ERRORS), named)

    def test_bases(self):
        for base, above, _ in GROUPS:
            self.assertEqual(base.__bases__, (above,))
        for base, _, made, _ in each_error():
            self.assertEqual(made.__bases__, (base,))

    def test_an_error_is_of_no_other_class(self):
        python = (ValueError, LookupError, ArithmeticError)
        for base, above, made, fields in each_error():
            error = made(*fields)
            self.assertEqual([each for each in ERRORS if isinstance(error, each)], [made])
            self.assertEqual([each for each in BASES if isinstance(error, each)], [base])
            self.assertEqual([each for each in python if isinstance(error, each)], [above])

    def check_fields(self, error, fields, values):
        self.assertEqual(list(vars(error)), list(fields))
        for name, value in zip(fields, values):
            self.assertIs(getattr(error, name), value)

    def test_fields_are_kept_as_they_are(self):
        for _, _, made, fields in each_error():
            for at in range(len(VALUES)):
                values = [VALUES[(at + step) % len(VALUES)] for step in range(len(fields))]
                self.check_fields(made(*values), fields, values)
                self.check_fields(made(**dict(zip(fields, values))), fields, values)

    def test_fields_in_another_order(self):
        self.check_fields(errors.NotRising(place=3, marks=()), ("marks", "place"), ((), 3))

    def test_errors_can_be_raised(self):
        for base, above, made, fields in each_error():
            for wanted in (made, base, above):
                with self.assertRaises(wanted):
                    raise made(*fields)
