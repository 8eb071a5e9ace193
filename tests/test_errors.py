"""The interface's section latestow/errors.py; the fields are those of promises 16, 17, 18, 19 and 28."""

import unittest

from latestow import errors
from latestow.errors import Cut, Missing, NoPledge, StowError

# name, fields by name in the told order, text
UNDER_STOW_ERROR = [
    ("Short", {"asked": 5, "there": 3}, "Short 5 3"),
    ("BadSize", {"size": 201}, "BadSize 201"),
    ("BadPath", {"path": "/a//b"}, "BadPath /a//b"),
    ("BadPage", {"page": -1}, "BadPage -1"),
    ("BadMany", {"many": -2}, "BadMany -2"),
    ("BadOwner", {"whose": 10}, "BadOwner 10"),
    ("Taken", {"path": "/a"}, "Taken /a"),
    ("Crowded", {"most": 24}, "Crowded 24"),
    ("NotEmpty", {"path": "/a/b"}, "NotEmpty /a/b"),
    ("Unsettled", {"path": "/a"}, "Unsettled /a"),
    ("NoRoom", {"asked": 7, "there": 2, "helps": True}, "NoRoom 7 2 True"),
    ("NoRoom", {"asked": 7, "there": 0, "helps": False}, "NoRoom 7 0 False"),
    ("OverLimit", {"whose": 3, "asked": 12, "most": 10}, "OverLimit 3 12 10"),
    ("OverLimit", {"whose": "/", "asked": 1, "most": 0}, "OverLimit / 1 0"),
    ("GraceOver", {"whose": "/a", "began": 4}, "GraceOver /a 4"),
    ("GraceOver", {"whose": 0, "began": 0}, "GraceOver 0 0"),
    ("Dry", {"ticket": 2, "asked": 9, "there": 1}, "Dry 2 9 1"),
    ("Gone", {}, "Gone"),
    ("Stale", {}, "Stale"),
    ("Unplayed", {}, "Unplayed"),
    ("NotHere", {}, "NotHere"),
    ("BadLine", {}, "BadLine"),
    ("Undone", {"at": 1, "why": "NoRoom 7 2 True"}, "Undone 1 NoRoom 7 2 True"),
]
UNDER_MISSING = [
    ("NoFile", {"path": "/a/b"}, "NoFile /a/b"),
    ("NoFolder", {"path": "/a"}, "NoFolder /a"),
]
ALONE = [
    ("NoPledge", {"ticket": 8}, "NoPledge 8"),
    ("Cut", {}, "Cut"),
]
ALL = UNDER_STOW_ERROR + UNDER_MISSING + ALONE


def made(name, fields):
    return getattr(errors, name)(*fields.values())


class FieldsTest(unittest.TestCase):
    def test_fields_by_place(self):
        for name, fields, text in ALL:
            with self.subTest(text):
                error = made(name, fields)
                for field, worth in fields.items():
                    self.assertEqual(getattr(error, field), worth)

    def test_fields_by_name(self):
        for name, fields, text in ALL:
            with self.subTest(text):
                error = getattr(errors, name)(**fields)
                for field, worth in fields.items():
                    self.assertEqual(getattr(error, field), worth)
                self.assertEqual(str(error), text)

    def test_kinds_of_values_are_kept(self):
        self.assertIs(errors.NoRoom(1, 0, False).helps, False)
        self.assertIs(errors.NoRoom(1, 0, True).helps, True)
        self.assertIs(type(errors.OverLimit(3, 2, 1).whose), int)
        self.assertIs(type(errors.OverLimit("/a", 2, 1).whose), str)

    def test_a_missing_or_needless_field_is_taken_by_none_with_fields(self):
        for name, fields, text in ALL:
            if fields:
                with self.subTest(text):
                    with self.assertRaises(TypeError):
                        getattr(errors, name)()
                    with self.assertRaises(TypeError):
                        getattr(errors, name)(*fields.values(), 1)


class TextTest(unittest.TestCase):
    def test_text(self):
        for name, fields, text in ALL:
            with self.subTest(text):
                self.assertEqual(str(made(name, fields)), text)

    def test_text_of_the_two_bases(self):
        self.assertEqual(str(StowError()), "StowError")
        self.assertEqual(str(Missing()), "Missing")

    def test_an_empty_text_as_field(self):
        self.assertEqual(str(errors.BadPath("")), "BadPath ")
        self.assertEqual(str(errors.NoFile("")), "NoFile ")

    def test_text_of_raised_no_pledge_has_no_quotes(self):
        with self.assertRaises(KeyError) as caught:
            raise NoPledge(3)
        self.assertEqual(str(caught.exception), "NoPledge 3")


class BasesTest(unittest.TestCase):
    def test_two_bases(self):
        self.assertEqual(StowError.__bases__, (ValueError,))
        self.assertEqual(Missing.__bases__, (LookupError,))

    def test_under_stow_error(self):
        for name, fields, text in UNDER_STOW_ERROR:
            with self.subTest(text):
                error = made(name, fields)
                self.assertEqual(getattr(errors, name).__bases__, (StowError,))
                self.assertIsInstance(error, ValueError)
                self.assertNotIsInstance(error, (Missing, LookupError, RuntimeError))

    def test_under_missing(self):
        for name, fields, text in UNDER_MISSING:
            with self.subTest(text):
                error = made(name, fields)
                self.assertEqual(getattr(errors, name).__bases__, (Missing,))
                self.assertIsInstance(error, LookupError)
                self.assertNotIsInstance(error, (StowError, ValueError, KeyError))

    def test_no_pledge_is_under_key_error_alone(self):
        self.assertEqual(NoPledge.__bases__, (KeyError,))
        self.assertNotIsInstance(NoPledge(1), (StowError, Missing, ValueError))

    def test_cut_is_under_runtime_error_alone(self):
        self.assertEqual(Cut.__bases__, (RuntimeError,))
        self.assertNotIsInstance(Cut(), (StowError, Missing, ValueError, LookupError))


class RaisedTest(unittest.TestCase):
    def check(self, rows, bases):
        for name, fields, text in rows:
            for base in (*bases, getattr(errors, name)):
                with self.subTest(text, base=base.__name__):
                    with self.assertRaises(base) as caught:
                        raise made(name, fields)
                    self.assertIs(type(caught.exception), getattr(errors, name))
                    self.assertEqual(str(caught.exception), text)

    def test_each_is_taken_by_its_bases(self):
        self.check(UNDER_STOW_ERROR, (StowError, ValueError))
        self.check(UNDER_MISSING, (Missing, LookupError))
        self.check([ALONE[0]], (KeyError,))
        self.check([ALONE[1]], (RuntimeError,))


if __name__ == "__main__":
    unittest.main()
