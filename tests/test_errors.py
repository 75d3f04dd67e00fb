import unittest

from beamrows import errors

NAMES = ("NoProgram", "NoRoom", "NoNumbers", "NoState", "NoFrame", "NoSpan", "NotWhole", "NoPaper", "NoFill",
         "TooMany", "NoText", "NoStep")


class ErrorsTest(unittest.TestCase):
    def test_rows_error_is_made_from_value_error(self):
        self.assertEqual(errors.RowsError.__bases__, (ValueError,))

    def test_each_other_one_is_made_from_rows_error(self):
        for name in NAMES:
            with self.subTest(name):
                self.assertTrue(issubclass(getattr(errors, name), errors.RowsError))

    def test_none_is_made_from_another(self):
        for one in NAMES:
            for other in NAMES:
                if one != other:
                    with self.subTest(one=one, other=other):
                        self.assertFalse(issubclass(getattr(errors, one), getattr(errors, other)))

    def test_each_can_be_raised_and_caught(self):
        for name in NAMES:
            with self.subTest(name), self.assertRaises(errors.RowsError):
                raise getattr(errors, name)("why")


if __name__ == "__main__":
    unittest.main()
