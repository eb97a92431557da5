import unittest

from bunkmates.errors import BadLists, BadPairing, BunkError, TooMany


class Errors(unittest.TestCase):
    def test_bunk_error_is_a_value_error(self):
        self.assertEqual(BunkError.__bases__, (ValueError,))

    def test_the_others_stand_straight_under_it(self):
        for error in (BadLists, BadPairing, TooMany):
            self.assertEqual(error.__bases__, (BunkError,))

    def test_defined_in_this_file(self):
        for error in (BunkError, BadLists, BadPairing, TooMany):
            self.assertEqual(error.__module__, "bunkmates.errors")

    def test_each_object_has_its_own_at(self):
        for error in (BadLists, BadPairing):
            for at in (None, 0, 59):
                self.assertIs(error(at).at, at)
                self.assertIsInstance(str(error(at)), str)
            self.assertFalse(hasattr(error, "at"))

    def test_too_many_is_raised_with_words(self):
        with self.assertRaises(BunkError):
            raise TooMany("more than ten")
