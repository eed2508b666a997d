"""[3]: the classes of errors and their fields."""

import unittest

from unknowntakes import errors

FIELDS = {
    "BadMarks": ("index",), "BadTakes": ("index",), "BadFact": ("index",), "Contradiction": ("ring",),
    "UnknownName": ("name",), "UnlikeMarks": (), "BadNumbers": (), "BadTracks": ("index",),
    "BadEdit": ("step",), "BadStep": ("step",), "BadPlace": ("index",), "BadText": ("line",),
    "NotRecording": (), "UnlikeTracks": (), "NoShape": (), "BadFault": ("index",), "BadPairs": (),
    "NotSure": ("recording",), "BadTree": ("index",), "NameTaken": ("name",), "NoBranch": ("name",),
    "NoWatch": ("name",), "NothingToUndo": (), "BadDeed": ("index",),
    "CouldGoWrong": ("step", "kind", "recording"),
}


class Errors(unittest.TestCase):
    def test_base(self):
        self.assertEqual(errors.TakesError.__bases__, (ValueError,))

    def test_each_stands_directly_below_the_base(self):
        for name in FIELDS:
            self.assertEqual(getattr(errors, name).__bases__, (errors.TakesError,), name)

    def test_no_other_classes(self):
        found = {name for name, worth in vars(errors).items() if isinstance(worth, type)}
        self.assertEqual(found, {*FIELDS, "TakesError"})

    def test_fields_by_position(self):
        for name, fields in FIELDS.items():
            worths = [("worth", field) for field in fields]
            error = getattr(errors, name)(*worths)
            self.assertEqual([getattr(error, field) for field in fields], worths, name)

    def test_fields_by_name(self):
        for name, fields in FIELDS.items():
            worths = {field: ("worth", field) for field in reversed(fields)}
            error = getattr(errors, name)(**worths)
            self.assertEqual({field: getattr(error, field) for field in fields}, worths, name)

    def test_no_more_and_no_fewer_arguments(self):
        for name, fields in FIELDS.items():
            with self.assertRaises(TypeError, msg=name):
                getattr(errors, name)(*fields, "more")
            if fields:
                with self.assertRaises(TypeError, msg=name):
                    getattr(errors, name)(*fields[1:])

    def test_no_field_but_these(self):
        for name, fields in FIELDS.items():
            self.assertEqual(sorted(vars(getattr(errors, name)(*fields))), sorted(fields), name)

    def test_each_has_a_wording(self):
        for name, fields in FIELDS.items():
            self.assertTrue(str(getattr(errors, name)(**{field: 1 for field in fields})), name)


if __name__ == "__main__":
    unittest.main()
