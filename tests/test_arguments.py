"""Points [1] to [3]: arguments stay as they were, by position or by name, and the first wrong one decides."""

import copy
import inspect
import itertools
import unittest

from bothreaders import commons, faces, files, formats, readers, texts, washers, washing
from bothreaders.errors import (
    FileError, HasCommon, HasStubborn, InvalidContent, InvalidFile, InvalidFormat, InvalidFormats, InvalidIndex, InvalidLength, InvalidText,
    OtherBase, Refused,
)
from tests.reference import A, B, C, D, E

# For a parameter: a right value, some wrong ones, and the error for these.
FORM = (A, ([4, [1, None], "one", 3, [[0, "stop"], [2, "keep"]], "skip"], None, A[:5]), InvalidFormat)
OTHER = (B, (list(B), 4, ()), InvalidFormat)
FILE = ((1, 2, 0), ([1, 2, 0], (1, 4), (True,), None), InvalidFile)
CONTENT = (((2, (1,)),), ([[2, [1]]], ((0, ()),), None), InvalidContent)
TOLD = (((3, (1,)),), ([(3, (1,))], ((2, ()),), None), InvalidContent)
LENGTH = (3, (-1, True, None, 3.0), InvalidLength)
INDEX = (1, (-1, 4, False, None, [1]), InvalidIndex)
FORMATS = ([A, B], ((A, B), [], [A, E], [A, None], A), InvalidFormats)
TEXT = ("1 2 0", ("1 4", "", None, (1, 2, 0)), InvalidText)
FORM_TEXT = ("base 4; head; width one; most 0; tags; others skip", ("base 4", "", None, A), InvalidText)
ANY = ((1, 2, 0), (), None)

PARAMETERS = {
    formats.is_file: (FORM, ANY), formats.stand_behind: (FORM, FILE), formats.stands: (FORM,),
    readers.read: (FORM, FILE), readers.refusal: (FORM, FILE), readers.looked_at: (FORM, FILE),
    readers.is_content: (FORM, ANY), readers.write: (FORM, CONTENT),
    files.count_files: (FORM, LENGTH), files.nth_file: (FORM, LENGTH, INDEX), files.file_index: (FORM, FILE),
    files.alike: (FORM, OTHER), files.parting: (FORM, OTHER),
    commons.common: (FORM, OTHER), commons.count_common: (FORM, OTHER, LENGTH), commons.is_table: (FORM, OTHER, ANY),
    commons.doomed: (FORMATS, FILE), commons.completion: (FORMATS, FILE),
    faces.unlike: (FORM, OTHER), faces.lost: (FORM, OTHER), faces.safe_pairs: (FORMATS,), faces.relayed: (FORM, OTHER),
    faces.two_faced: (FORM, OTHER, CONTENT, TOLD),
    washing.washed: (FORM, OTHER, FILE), washing.dressed: (FORM, OTHER, FILE), washing.steady: (FORM, OTHER, FILE),
    washing.hanging: (FORM, OTHER, FILE), washing.dressed_as: (FORM, OTHER, FILE, TOLD),
    washers.stubborn: (FORM, OTHER), washers.count_stubborn: (FORM, OTHER, LENGTH), washers.washing_table: (FORM, OTHER),
    washers.is_washing_table: (FORM, OTHER, ANY),
    texts.show_format: (FORM,), texts.show_file: (FORM, FILE), texts.parse_file: (FORM, TEXT), texts.parse_format: (FORM_TEXT,),
}

# Functions of two formats without a common file.
APART = (A, C)

# Calls in which a condition is not met that comes behind the arguments, each ahead of the next one.
LATER = (
    (files.nth_file, (C, 1, 1), InvalidIndex), (files.file_index, (A, (1, 2)), Refused), (readers.read, (A, (1, 2)), Refused),
    (files.alike, (A, E), OtherBase), (files.parting, (E, A), OtherBase), (commons.common, (A, E), OtherBase),
    (commons.count_common, (A, E, 3), OtherBase), (commons.table, (A, E), OtherBase), (commons.table, (A, B), HasCommon),
    (commons.is_table, (A, E, []), OtherBase), (commons.is_table, (A, E, None), OtherBase), (commons.refused_by, (A, E), OtherBase),
    (commons.refused_by, (A, B), HasCommon), (faces.unlike, (A, E), OtherBase), (faces.lost, (E, A), OtherBase),
    (faces.two_faced, (A, E, ((2, ()),), ((0, ()),)), OtherBase), (faces.relayed, (A, E), OtherBase),
    (washing.washed, (A, E, (1, 2, 0)), OtherBase), (washing.washed, (A, E, (1, 2)), OtherBase), (washing.washed, (A, B, (1, 2)), Refused),
    (washing.dressed, (A, E, (1, 2)), OtherBase), (washing.dressed, (A, B, (1, 2)), Refused), (washing.steady, (A, E, (1, 2)), OtherBase),
    (washing.steady, (A, B, (1, 2)), Refused), (washing.hanging, (A, E, (1, 2)), OtherBase), (washing.hanging, (A, B, (1, 2)), Refused),
    (washing.dressed_as, (A, E, (1, 2), None), InvalidContent), (washing.dressed_as, (A, E, (1, 2), ()), OtherBase),
    (washing.dressed_as, (A, B, (1, 2), ((2, ()),)), InvalidContent), (washing.dressed_as, (A, B, (1, 2), ()), Refused),
    (washing.dressed_as, (A, E, (1, 4), None), InvalidFile), (commons.count_common, (A, E, -1), InvalidLength),
    (faces.two_faced, (A, E, ((3, ()),), ()), InvalidContent), (faces.two_faced, (A, E, (), ((1, ()),)), InvalidContent),
    (washers.stubborn, (A, E), OtherBase), (washers.count_stubborn, (A, E, 3), OtherBase), (washers.count_stubborn, (A, E, -1), InvalidLength),
    (washers.washing_table, (E, A), OtherBase), (washers.washing_table, (A, A), HasStubborn), (washers.is_washing_table, (A, E, []), OtherBase),
    (washers.is_washing_table, (E, A, None), OtherBase),
)

# Calls that return a list that is not empty.
LISTS = (
    (formats.stands, (D,)), (readers.looked_at, (D, (1, 2, 0))), (commons.table, APART), (faces.safe_pairs, ([A, A],)),
    (washing.hanging, (A, B, (1, 2, 0))), (washers.washing_table, (A, B)),
)


class ArgumentsTest(unittest.TestCase):

    def call(self, function, *arguments):
        """Call a function; what it returned or the class of its error. Its arguments must stay."""
        kept = copy.deepcopy(arguments)
        try:
            found = function(*arguments)
        except FileError as error:
            found = error.__class__
        self.assertEqual(arguments, kept)
        return found

    def is_error(self, found):
        return isinstance(found, type) and issubclass(found, FileError)

    def test_any_value_is_a_format_or_none(self):
        self.assertIs(self.call(formats.is_format, FORM[1][0]), False)
        self.assertIs(self.call(formats.is_format, A), True)

    def test_right_arguments(self):
        for function, parameters in PARAMETERS.items():
            with self.subTest(function=function.__name__):
                arguments = [right for right, _, _ in parameters]
                found = self.call(function, *arguments)
                self.assertFalse(self.is_error(found), found)
                self.assertEqual(self.call(function, *arguments), found)

    def test_arguments_by_name(self):
        for function, parameters in PARAMETERS.items():
            with self.subTest(function=function.__name__):
                arguments = [right for right, _, _ in parameters]
                named = dict(reversed(list(zip(inspect.signature(function).parameters, arguments))))
                self.assertEqual(function(**named), function(*arguments))
                self.assertEqual(function(arguments[0], **dict(list(named.items())[:-1])), function(*arguments))

    def test_the_first_wrong_argument_decides(self):
        for function, parameters in PARAMETERS.items():
            for rows in itertools.product(*[[(right, None)] + [(value, error) for value in wrong] for right, wrong, error in parameters]):
                errors = [error for _, error in rows if error is not None]
                if errors:
                    with self.subTest(function=function.__name__, rows=rows):
                        self.assertIs(self.call(function, *[value for value, _ in rows]), errors[0])

    def test_later_conditions(self):
        for function, arguments, error in LATER:
            with self.subTest(function=function.__name__, arguments=arguments):
                self.assertIs(self.call(function, *arguments), error)

    def test_tables(self):
        for function in (commons.table, commons.refused_by):
            self.assertFalse(self.is_error(self.call(function, *APART)))
            self.assertEqual(function(other=C, one=A), function(A, C))
            for wrong in FORM[1]:
                self.assertIs(self.call(function, wrong, A), InvalidFormat)
                self.assertIs(self.call(function, A, wrong), InvalidFormat)
                self.assertIs(self.call(function, E, wrong), InvalidFormat)
        value = commons.table(*APART)
        self.assertIs(self.call(commons.is_table, A, C, value), True)
        self.assertIs(commons.is_table(value=value, other=C, one=A), True)
        value = washers.washing_table(A, B)
        self.assertIs(self.call(washers.is_washing_table, A, B, value), True)
        self.assertIs(washers.is_washing_table(value=value, other=B, one=A), True)

    def test_each_list_is_a_new_one(self):
        for function, arguments in LISTS:
            with self.subTest(function=function.__name__):
                first = function(*arguments)
                kept = list(first)
                self.assertIs(first.__class__, list)
                self.assertIsNot(function(*arguments), first)
                first.append(None)
                first[0] = None
                self.assertEqual(function(*arguments), kept)

    def test_a_change_behind_the_call(self):
        some = [A, B]
        self.assertEqual(faces.safe_pairs(some), [])
        some[1] = A
        self.assertEqual(faces.safe_pairs(some), [(0, 1), (1, 0)])
        value = commons.table(*APART)
        self.assertIs(commons.is_table(A, C, value), True)
        value.clear()
        self.assertIs(commons.is_table(A, C, value), False)


if __name__ == "__main__":
    unittest.main()
