"""Point 2: the errors."""

import unittest

from leastfile import errors

FIELDS = {
    "BadFormat": "part", "NoCommand": None, "BadWay": "at", "NoBits": None, "BadBits": "at", "TooFew": "due",
    "Left": "at", "NoUndo": None, "BadText": "place", "BadNumber": "part", "BadPlaces": None, "BadRule": "part",
    "BadView": None, "TooMany": "most", "OtherLetters": None, "BadTexts": None, "BadLine": None, "NoLine": None,
    "NoName": "name", "BadSight": None, "NoMove": None, "BadFlag": None, "BadCopies": None,
}


class TestErrors(unittest.TestCase):
    def test_all_are_there(self):
        self.assertEqual(len(FIELDS), 23)
        self.assertTrue(set(FIELDS) < set(vars(errors)))

    def test_bases(self):
        self.assertEqual(errors.PackError.__bases__, (ValueError,))
        for name in FIELDS:
            self.assertEqual(getattr(errors, name).__bases__, (errors.PackError,), name)

    def test_fields(self):
        for name, field in FIELDS.items():
            made = getattr(errors, name)
            if field is None:
                self.assertEqual(vars(made()), {})
                continue
            for thing in (3, "letters", None, [1], (2, 1)):
                self.assertEqual(vars(made(thing)), {field: thing})
                self.assertEqual(vars(made(**{field: thing})), {field: thing})

    def test_they_are_raised_and_caught(self):
        with self.assertRaises(ValueError) as caught:
            raise errors.TooFew(2)
        self.assertEqual(caught.exception.due, 2)
        self.assertIsInstance(str(caught.exception), str)
