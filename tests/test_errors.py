import unittest

from fieldclaim.errors import FieldError, NoClaim, NoText


class Errors(unittest.TestCase):
    def test_field_error_stands_below_value_error(self):
        self.assertTrue(issubclass(FieldError, ValueError))
        self.assertIsNot(FieldError, ValueError)

    def test_no_text_and_no_claim_stand_below_field_error(self):
        for error in (NoText, NoClaim):
            self.assertTrue(issubclass(error, FieldError))
            self.assertIsNot(error, FieldError)

    def test_neither_stands_below_the_other(self):
        self.assertFalse(issubclass(NoText, NoClaim))
        self.assertFalse(issubclass(NoClaim, NoText))

    def test_each_is_taken_by_its_own_name_and_by_those_above(self):
        for error in (FieldError, NoText, NoClaim):
            for taken in (error, FieldError, ValueError):
                with self.assertRaises(taken):
                    raise error("words")


if __name__ == "__main__":
    unittest.main()
