"""Washing a file: points [16] and [17]."""

import itertools
import random
import unittest

from bothreaders.errors import InvalidContent, InvalidFile, InvalidFormat, OtherBase, Refused
from bothreaders.files import count_files, nth_file
from bothreaders.readers import looked_at, read
from bothreaders.washing import dressed, dressed_as, hanging, steady, washed
from tests.reference import (
    A, B, C, D, E, WRONG_FILES, WRONG_FORMATS, contents, outcome, some_formats, told, variations, varied_formats,
)

GREAT = (256, (255,) * 20, "high", 65535, tuple((k, "check") for k in range(20)), "skip")
OF_A_FILE = (washed, dressed, steady, hanging)

# A reader that looks at the first sign alone, and one with a length behind a free mark.
ROOM = (3, (), "one", 0, ((0, "end"),), "refuse")
LENGTH = (3, (0, None), "one", 2, ((0, "keep"), (1, "skip")), "refuse")


def wanted(one, other, file, is_wanted):
    """The nearest variation by trying all of them."""
    return next((varied for varied in variations(one, file) if is_wanted(told(other, varied))), None)


def hanging_by_trying(one, other, file):
    found = []
    for k in range(len(file)):
        changed = [file[:k] + (sign,) + file[k + 1:] for sign in range(one[0])]
        if k not in looked_at(one, file) and any(told(other, varied) != told(other, file) for varied in changed):
            found.append(k)
    return found


def steady_by_trying(one, other, file):
    found = {told(other, varied) for varied in variations(one, file)}
    return len(found) == 1 and None not in found


class WashedTest(unittest.TestCase):

    def test_nearest_variations(self):
        for one, other, file, varied in (
            (A, B, (1, 2, 0), (1, 0, 0)), (D, A, (1, 2, 0), None), (A, A, (1, 2, 0), None), (B, A, (1, 2, 0), (0, 2, 0)),
            # The other format refuses the file already: it is the nearest one itself.
            (A, B, (1, 3, 0), (1, 3, 0)), (A, C, (1, 3, 0), (1, 3, 0)), (D, C, (1, 2, 0), (1, 2, 0)),
            # A file without an index at which the reader does not look.
            (D, A, (1, 2, 2, 1, 3, 0), None), (D, B, (1, 2, 2, 1, 3, 0), (1, 2, 2, 1, 3, 0)), (E, E, (), None),
            # The signs of a body that is passed over, and those behind an end.
            (A, D[:5] + ("skip",), (1, 2, 3, 1, 0, 0), (1, 0, 3, 1, 0, 0)), (B, D, (1, 2, 0), (0, 2, 0)),
            (ROOM, LENGTH, (0, 2, 1, 0), (0, 2, 1, 1)), (ROOM, LENGTH, (0, 2, 0, 1, 2), (0, 2, 0, 0, 2)),
        ):
            self.assertEqual(washed(one, other, file), varied, (one, other, file))

    def test_the_first_one_of_several(self):
        # Each one change makes a file that is refused, at the index 1 with 0 or 2, at the index 2 with 0 or 1.
        other = (3, (None, 1, 2), "one", 0, (), "refuse")
        self.assertEqual(washed(ROOM, other, (0, 1, 2)), (0, 0, 2))
        # A greater sign at the first index, as there is no less one.
        other = (3, (None, 0, 2), "one", 0, (), "refuse")
        self.assertEqual(washed(ROOM, other, (0, 0, 2)), (0, 0, 0))
        other = (3, (None, 0, 0), "one", 0, (), "refuse")
        self.assertEqual(washed(ROOM, other, (0, 0, 0)), (0, 0, 1))


class DressedTest(unittest.TestCase):

    def test_nearest_variations(self):
        for one, other, file, varied in (
            (A, B, (1, 0, 0), (1, 2, 0)), (A, C, (1, 0, 0), None), (A, B, (1, 2, 0), (1, 2, 0)), (D, A, (1, 2, 0), (1, 2, 0)),
            (B, A, (3, 2, 0), (1, 2, 0)), (B, D, (0, 2, 0, 3, 3), None), (C, A, (2,), None), (E, E, (), ()),
            # Several changes, and no more than are needed.
            (ROOM, LENGTH, (0, 2, 2, 2, 2, 2), (0, 2, 0, 2, 2, 2)), (ROOM, LENGTH, (0, 2, 2, 2), (0, 2, 0, 0)),
            (ROOM, (3, (0, 1, 1, 1), "one", 0, (), "refuse"), (0, 2, 1, 0), (0, 1, 1, 1)),
        ):
            self.assertEqual(dressed(one, other, file), varied, (one, other, file))

    def test_the_fewest_changes_come_first(self):
        # With one change, 1 at the index 2, this is read; (0, 0, 2, 0) is less, but it has two changes.
        other = (3, (0,), "one", 1, ((0, "stop"), (1, "keep"), (2, "keep")), "refuse")
        self.assertEqual(dressed(ROOM, other, (0, 2, 2, 0)), wanted(ROOM, other, (0, 2, 2, 0), lambda content: content is not None))
        self.assertEqual(dressed(ROOM, other, (0, 2, 2, 2, 0)), (0, 2, 1, 2, 0))
        # Body and check sign have to be changed to one of both: to the less one.
        other = (3, (0,), "one", 2, ((1, "check"), (2, "stop")), "refuse")
        self.assertEqual(dressed(ROOM, other, (0, 0, 1, 1, 0, 2)), (0, 1, 1, 0, 0, 2))
        self.assertEqual(dressed(ROOM, other, (0, 1, 1, 1, 0, 2)), (0, 1, 1, 0, 0, 2))


class DressedAsTest(unittest.TestCase):

    def test_nearest_variations(self):
        for one, other, file, content, varied in (
            (A, B, (1, 0, 3, 0, 0), ((3, ()),), (1, 2, 3, 0, 0)), (A, B, (1, 2, 3, 0, 0), ((3, ()),), (1, 2, 3, 0, 0)),
            (A, B, (1, 2, 3, 0, 0), (), None), (A, B, (1, 0, 3, 0, 0), ((3, (0,)),), None), (A, C, (1, 0, 0), (), None),
            (D, A, (1, 2, 2, 1, 3, 0), ((2, (3,)),), (1, 2, 2, 1, 3, 0)), (D, A, (1, 2, 2, 1, 3, 0), ((2, (2,)),), None),
            (E, E, (), (), ()), (E, E, (), ((0, ()),), None),
            (ROOM, LENGTH, (0, 2, 0, 1, 2), ((0, (0,)),), (0, 2, 0, 1, 0)), (ROOM, LENGTH, (0, 2, 0, 1), ((0, ()),), (0, 2, 0, 0)),
            (ROOM, LENGTH, (0, 2, 0, 1), (), (0, 2, 1, 0)), (ROOM, LENGTH, (0, 0, 0, 0, 0, 0), ((0, ()), (0, ())), (0, 0, 0, 0, 0, 0)),
            (ROOM, LENGTH, (0, 0, 0, 0, 0, 0), ((0, ()),), (0, 0, 0, 0, 1, 0)), (ROOM, LENGTH, (0, 0, 0), ((0, ()),), None),
        ):
            self.assertEqual(dressed_as(one, other, file, content), varied, (one, other, file, content))

    def test_the_content_of_the_file_itself(self):
        for one in some_formats(3, 12, 61):
            for other in some_formats(3, 12, 62):
                for file in list(contents(one, 5))[:12]:
                    content = told(other, file)
                    if content is not None:
                        self.assertEqual(dressed_as(one, other, file, content), file)

    def test_wrong_contents(self):
        for wrong in (None, [], [(3, ())], 0, "", {}, (3, ()), ((3,),), ((3, [1]),), ((3, (4,)),), ((0, ()),), ((2, ()),), ((3, (1, 1, 1)),),
                      ((True, ()),), ((3, (True,)),), ((3, ()), None)):
            with self.assertRaises(InvalidContent):
                dressed_as(A, B, (1, 2, 0), wrong)
            with self.assertRaises(InvalidContent):
                dressed_as(A, B, (0,), wrong)
        # A content of the one format, which is none of the other one.
        with self.assertRaises(InvalidContent):
            dressed_as(A, B, (1, 2, 2, 0, 0), ((2, ()),))


class SteadyTest(unittest.TestCase):

    def test_steady_files(self):
        for one, other, file, expected in (
            (A, B, (1, 2, 0), False), (D, A, (1, 2, 0), True), (A, A, (1, 2, 0), True), (A, A, (1, 0, 3, 2, 1, 1, 0), True),
            (A, C, (1, 2, 0), False), (D, C, (1, 2, 0), False), (E, E, (), True), (E, E, (0, 1, 1), True),
            # The other format reads all, but tells what the one passes over.
            (A, A[:4] + (((0, "stop"), (2, "keep"), (3, "keep")),) + A[5:], (1, 2, 3, 1, 0, 0), False),
            (A, A[:4] + (((0, "stop"), (2, "keep"), (3, "keep")),) + A[5:], (1, 2, 3, 0, 0), True),
            (A, A[:4] + (((0, "stop"), (2, "skip"), (3, "skip")),) + A[5:], (1, 2, 3, 1, 0, 0), True),
            # All variations but one are read; all are read, and one tells another tag.
            (ROOM, (3, (0,), "one", 0, ((0, "stop"), (1, "stop")), "refuse"), (0, 1), False),
            (ROOM, (3, (0,), "one", 0, ((0, "stop"), (1, "stop"), (2, "stop")), "refuse"), (0, 1), True),
            (ROOM, (3, (0, None), "one", 0, (), "refuse"), (0, 2), True), (ROOM, (3, (), "one", 0, ((0, "end"),), "refuse"), (0, 2, 2, 2), True),
        ):
            self.assertIs(steady(one, other, file), expected, (one, other, file))


class HangingTest(unittest.TestCase):

    def test_indexes(self):
        for one, other, file, indexes in (
            (A, B, (1, 2, 0), [1]), (D, A, (1, 2, 0), []), (A, A, (1, 2, 3, 1, 0, 0), []), (A, B, (1, 0, 0), [1]), (A, C, (1, 2, 0), []),
            (E, E, (), []), (B, A, (1, 2, 0), [0]), (B, A, (1, 2, 0, 0), []), (ROOM, LENGTH, (0, 2, 0, 0), [2, 3]),
            (ROOM, LENGTH, (0, 2, 0, 1, 2), [2, 3, 4]), (ROOM, LENGTH, (0, 2, 1, 1, 2), [2, 3]), (ROOM, LENGTH, (0, 2, 2, 2), []),
            # The file is refused, and a change at the index 3 makes it one that is read.
            (ROOM, LENGTH, (0, 2, 0, 2), [3]),
            # Both signs together change what is told, each one alone changes nothing.
            (ROOM, (3, (0,), "one", 0, (), "refuse"), (0, 1, 1), []),
        ):
            self.assertEqual(hanging(one, other, file), indexes, (one, other, file))

    def test_each_list_is_a_new_one(self):
        first = hanging(A, B, (1, 2, 0))
        first.clear()
        self.assertEqual(hanging(A, B, (1, 2, 0)), [1])
        self.assertIsNot(hanging(D, A, (1, 2, 0)), hanging(D, A, (1, 2, 0)))


class VariationsTest(unittest.TestCase):

    def test_by_trying_all_variations(self):
        seen = {function: set() for function in OF_A_FILE + (dressed_as,)}
        chance = random.Random(63)
        for base, longest, most in ((2, 9, 130), (3, 6, 90), (4, 5, 70)):
            some = some_formats(base, 10, 64)
            for k, one in enumerate(some):
                for other in list(varied_formats(one))[k % 8::8] + some[:4]:
                    files = [file for file in contents(one, longest) if len(variations(one, file)) <= most]
                    for file in chance.sample(files, min(4, len(files))):
                        self.assert_by_trying(one, other, file, chance, seen)
        for found in seen.values():
            self.assertGreater(len(found), 1)

    def assert_by_trying(self, one, other, file, chance, seen):
        found = wanted(one, other, file, lambda content: content is None)
        self.assertEqual(washed(one, other, file), found, (one, other, file))
        seen[washed].add(found is None)
        found = wanted(one, other, file, lambda content: content is not None)
        self.assertEqual(dressed(one, other, file), found, (one, other, file))
        seen[dressed].add(found is None)
        self.assertIs(steady(one, other, file), steady_by_trying(one, other, file), (one, other, file))
        seen[steady].add(steady(one, other, file))
        self.assertEqual(hanging(one, other, file), hanging_by_trying(one, other, file), (one, other, file))
        seen[hanging].add(len(hanging(one, other, file)))
        every = [told(other, varied) for varied in variations(one, file)] + list(contents(other, 5).values())[:3]
        content = chance.choice([content for content in every if content is not None] or [()])
        found = wanted(one, other, file, lambda row: row == content)
        self.assertEqual(dressed_as(one, other, file, content), found, (one, other, file, content))
        seen[dressed_as].add(found is None)

    def test_variations_of_long_files(self):
        """What is returned is a variation, and it is read or refused; with a change less, none is."""
        for base in (4, 16):
            some = some_formats(base, 8, 65)
            for one, other in itertools.product(some, some):
                many = count_files(one, 20)
                if many:
                    file = nth_file(one, 20, many // 3)
                    for function, refused in ((washed, True), (dressed, False)):
                        found = function(one, other, file)
                        if found is not None:
                            self.assert_variation(one, file, found)
                            self.assertIs(outcome(other, found) is not None, refused)
                            self.assert_no_change_is_idle(other, file, found, refused)

    def assert_variation(self, one, file, found):
        self.assertIs(found.__class__, tuple)
        self.assertEqual(len(found), len(file))
        changed = [k for k in range(len(file)) if found[k] != file[k]]
        self.assertFalse(set(changed) & set(looked_at(one, file)))
        self.assertEqual(read(one, found), read(one, file))

    def assert_no_change_is_idle(self, other, file, found, refused):
        for k in range(len(file)):
            if found[k] != file[k]:
                back = found[:k] + (file[k],) + found[k + 1:]
                self.assertIsNot(outcome(other, back) is not None, refused)

    def test_files_are_tuples_of_integers(self):
        for varied in (washed(A, B, (1, 2, 0)), dressed(A, B, (1, 0, 0)), dressed_as(A, B, (1, 0, 0), ())):
            self.assertIs(varied.__class__, tuple)
            self.assertEqual({sign.__class__ for sign in varied}, {int})


class ErrorsTest(unittest.TestCase):

    def test_wrong_formats(self):
        for form in WRONG_FORMATS:
            for one, other in ((form, A), (A, form), (form, form), (form, E)):
                for file in ((1, 2, 0), (0,), None):
                    for function in OF_A_FILE:
                        with self.assertRaises(InvalidFormat):
                            function(one, other, file)
                    with self.assertRaises(InvalidFormat):
                        dressed_as(one, other, file, None)

    def test_wrong_files(self):
        for file in WRONG_FILES:
            for other in (A, B, C, E, GREAT):
                for function in OF_A_FILE:
                    with self.assertRaises(InvalidFile):
                        function(A, other, file)
                with self.assertRaises(InvalidFile):
                    dressed_as(A, other, file, None)

    def test_other_bases(self):
        for file in ((1, 2, 0), (0,), ()):
            for other in (E, GREAT):
                for function in OF_A_FILE:
                    with self.assertRaises(OtherBase):
                        function(A, other, file)
                with self.assertRaises(OtherBase):
                    dressed_as(A, other, file, ())
        # A file of the one format alone.
        with self.assertRaises(OtherBase):
            dressed_as(GREAT, A, (250,), ((2, ()),))

    def test_refused_files(self):
        for file in ((), (0,), (1, 2), (1, 2, 0, 0), (1, 2, 2), (1, 2, 2, 3)):
            for other in (A, B, C):
                for function in OF_A_FILE:
                    self.assert_refused(file, function, A, other, file)
                self.assert_refused(file, dressed_as, A, other, file, ())

    def assert_refused(self, file, function, *arguments):
        with self.assertRaises(Refused) as caught:
            function(*arguments)
        self.assertEqual((caught.exception.index, caught.exception.word), outcome(A, file))

    def test_the_format_all_of_whose_signs_are_looked_at(self):
        for file in contents(D, 6):
            self.assertEqual(looked_at(D, file), list(range(len(file))))
            for other in (A, B, C, D):
                is_read = outcome(other, file) is None
                self.assertEqual(washed(D, other, file), None if is_read else file)
                self.assertEqual(dressed(D, other, file), file if is_read else None)
                self.assertIs(steady(D, other, file), is_read)
                self.assertEqual(hanging(D, other, file), [])


if __name__ == "__main__":
    unittest.main()
