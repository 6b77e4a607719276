"""Points [1] and [3]: arguments stay as they were, and the first wrong one decides."""

import copy
import unittest

from bothreaders.errors import FileError, InvalidContent, InvalidFile, InvalidFormat
from bothreaders.formats import is_file, is_format, stand_behind, stands
from bothreaders.readers import is_content, looked_at, read, refusal, write
from tests.reference import A

WRONG_FORMAT = [4, [1, None], "one", 3, [[0, "stop"], [2, "keep"]], "skip"]

# Functions of a format and another value: what is right, what is wrong, and the error for it.
OF_A_FORMAT = (
    (is_file, (1, 3, 0), [1, 3, 0], None),
    (stand_behind, (1, 3), [1, 3], InvalidFile),
    (read, (1, 3, 0), [1, 3, 0], InvalidFile),
    (refusal, (1, 3, 0), [1, 3, 0], InvalidFile),
    (looked_at, (1, 3, 0), [1, 3, 0], InvalidFile),
    (is_content, ((2, (1,)),), [[2, [1]]], None),
    (write, ((2, (1,)),), [[2, [1]]], InvalidContent),
)


class ArgumentsTest(unittest.TestCase):

    def call(self, function, *arguments):
        """Call a function; what it returned or the class of its error. Its arguments must stay."""
        kept = copy.deepcopy(arguments)
        try:
            found = function(*arguments)
        except FileError as error:
            found = error.__class__
        self.assertEqual(arguments, kept)
        return found

    def test_one_argument(self):
        self.assertIs(self.call(is_format, WRONG_FORMAT), False)
        self.assertIs(self.call(is_format, A), True)
        self.assertIs(self.call(stands, WRONG_FORMAT), InvalidFormat)
        self.assertEqual(len(self.call(stands, A)), 12)

    def test_a_wrong_second_argument(self):
        for function, _, wrong, error in OF_A_FORMAT:
            with self.subTest(function=function.__name__):
                self.assertIs(self.call(function, A, wrong), error if error is not None else False)

    def test_a_wrong_format_comes_first(self):
        for function, right, wrong, _ in OF_A_FORMAT:
            for value in (right, wrong):
                with self.subTest(function=function.__name__, value=value):
                    self.assertIs(self.call(function, WRONG_FORMAT, value), InvalidFormat)

    def test_the_same_call_again(self):
        for function, right, _, _ in OF_A_FORMAT:
            with self.subTest(function=function.__name__):
                self.assertEqual(self.call(function, A, right), self.call(function, A, right))


if __name__ == "__main__":
    unittest.main()
