"""Point [2] and the interface of wirebox/errors.py: bases and fields of all errors."""

import unittest

from wirebox import errors

BOX_ERRORS = {
    "Missing": "path", "Ambiguous": "names", "Captive": "path", "Ring": "path", "TooDeep": "path",
    "TooMany": "number", "Closed": "number", "NoLevel": "given", "Failed": "given",
}
WIRE_ERRORS = {
    "BadWord": "given", "BadTerm": "given", "BadPattern": "given", "BadKey": "given", "BadText": "place",
    "BadPart": "field", "NotFor": "given",
    "BadLevels": "index", "BadParent": "given", "BadLayers": "path", "SameName": "path", "UnknownLevel": "path",
    "Twice": "path", "TooLarge": "number", "NoPart": "given",
    "BadContainer": "given", "BadNode": "given", "BadLevel": "given",
    "BadScope": "given", "BadThing": "given", "BadBox": "given", "BadHandle": "given",
    "BadContainers": "index", "BadLog": "index", "BadRow": "index",
    "BadRoots": "index", "BadChange": "index", "Unchecked": "given", "Troubled": "names",
    "Unlike": "field", "BadNames": "given", "BadModule": "line",
}


class ErrorsTest(unittest.TestCase):
    def each(self):
        for base, table in ((errors.BoxError, BOX_ERRORS), (errors.WireError, WIRE_ERRORS)):
            for name, field in table.items():
                yield base, getattr(errors, name), field

    def test_bases(self):
        self.assertEqual(errors.WireError.__bases__, (ValueError,))
        self.assertEqual(errors.BoxError.__bases__, (RuntimeError,))

    def test_each_error_stands_directly_under_its_base(self):
        for base, error, _ in self.each():
            self.assertEqual(error.__bases__, (base,))
            self.assertEqual(error.__module__, "wirebox.errors")

    def test_made_by_position(self):
        for _, error, field in self.each():
            given = ["a", object()]
            made = error(given)
            self.assertEqual(list(vars(made)), [field])
            self.assertIs(getattr(made, field), given)

    def test_made_by_name(self):
        for _, error, field in self.each():
            given = ["a", object()]
            made = error(**{field: given})
            self.assertEqual(list(vars(made)), [field])
            self.assertIs(getattr(made, field), given)

    def test_other_parameters_are_refused(self):
        for _, error, field in self.each():
            with self.assertRaises(TypeError):
                error()
            with self.assertRaises(TypeError):
                error(1, 2)
            with self.assertRaises(TypeError):
                error(**{field + "s": 1})

    def test_raised_and_caught_by_its_base(self):
        for base, error, field in self.each():
            with self.assertRaises(base) as caught:
                raise error(7)
            self.assertEqual(getattr(caught.exception, field), 7)

    def test_there_are_no_other_errors(self):
        named = {"WireError", "BoxError", *BOX_ERRORS, *WIRE_ERRORS}
        found = {name for name, value in vars(errors).items() if isinstance(value, type)}
        self.assertEqual(found, named)


if __name__ == "__main__":
    unittest.main()
