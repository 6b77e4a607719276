"""The error classes: point [3] and the interface."""

import unittest

from bothreaders import errors

PLAIN = (
    "InvalidFormat", "InvalidFormats", "InvalidFile", "InvalidContent", "InvalidLength", "InvalidIndex", "InvalidText",
    "InvalidSign", "InvalidMark", "InvalidNumber", "OtherBase", "NothingToUndo", "Doomed", "TooLong",
)
TELLING = ("Refused", "HasCommon", "HasStubborn")


class ErrorsTest(unittest.TestCase):

    def test_file_error_stands_right_below_value_error(self):
        self.assertEqual(errors.FileError.__bases__, (ValueError,))

    def test_every_other_error_stands_below_file_error(self):
        for name in PLAIN + TELLING:
            with self.subTest(name=name):
                self.assertTrue(issubclass(getattr(errors, name), errors.FileError))

    def test_no_other_error_stands_above_another_one(self):
        for name in PLAIN + TELLING:
            for above in PLAIN + TELLING:
                if name != above:
                    with self.subTest(name=name, above=above):
                        self.assertFalse(issubclass(getattr(errors, name), getattr(errors, above)))

    def test_the_file_holds_these_classes_alone(self):
        found = [name for name, value in vars(errors).items() if isinstance(value, type)]
        self.assertEqual(sorted(found), sorted(("FileError",) + PLAIN + TELLING))

    def test_plain_errors_are_raised_without_arguments(self):
        for name in ("FileError",) + PLAIN:
            with self.subTest(name=name):
                error = getattr(errors, name)
                with self.assertRaises(errors.FileError) as caught:
                    raise error()
                self.assertIs(caught.exception.__class__, error)
                self.assertEqual(caught.exception.args, ())

    def test_refused_keeps_index_and_word(self):
        for error in (errors.Refused(3, "tag"), errors.Refused(index=3, word="tag"), errors.Refused(3, word="tag"),
                      errors.Refused(word="tag", index=3)):
            self.assertEqual((error.index, error.word), (3, "tag"))

    def test_has_common_and_has_stubborn_keep_the_file(self):
        for name in ("HasCommon", "HasStubborn"):
            error = getattr(errors, name)
            self.assertEqual(error((1, 2)).file, (1, 2))
            self.assertEqual(error(file=()).file, ())

    def test_telling_errors_need_their_arguments(self):
        with self.assertRaises(TypeError):
            errors.Refused(3)
        with self.assertRaises(TypeError):
            errors.HasCommon()
        with self.assertRaises(TypeError):
            errors.HasStubborn()


if __name__ == "__main__":
    unittest.main()
