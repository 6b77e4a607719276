"""All files of a format: points [8] and [9]."""

import unittest

from bothreaders.errors import InvalidIndex, InvalidLength, OtherBase, Refused
from bothreaders.files import alike, count_files, file_index, nth_file, parting
from tests.reference import (
    A, ALL_SKIP, B, C, D, E, F, all_files, contents, order, outcome, some_formats, told, varied_formats,
)

# Files for each base up to which all are tried, with formats of the base.
SMALL = ((2, 9), (3, 6), (4, 4))

WRONG_LENGTHS = (-1, -40, True, False, None, 1.0, "1", b"1", (1,), [1], {}, 1j)


class CountTest(unittest.TestCase):

    def test_counts(self):
        # D reads its head, chunks of 2 to 5 signs and the stop; A any second sign and other chunks, too.
        for form, counts in (
            (A, [0, 0, 0, 4, 0, 12, 48]), (C, [0, 1, 0, 0, 0]), (D, [0, 0, 0, 1, 0, 1, 4, 17, 72]),
            (E, [1, 0, 1, 2, 1, 4]), ((2, (), "one", 0, ((1, "end"),), "refuse"), [0, 1, 2, 4, 8]),
            ((2, (None,), "one", 0, ((1, "stop"),), "refuse"), [0, 0, 2, 0, 0]),
            ((3, (None, None), "one", 0, (), "refuse"), [0, 0, 9, 0, 0]),
            ((2, (), "high", 1, ((1, "check"),), "refuse"), [1, 0, 0, 0, 1, 2, 0, 0, 1]),
        ):
            with self.subTest(form=form):
                self.assertEqual([count_files(form, length) for length in range(len(counts))], counts)

    def test_counts_by_trying(self):
        for base, longest in SMALL:
            for form in some_formats(base, 40, 11):
                lengths = [len(file) for file in contents(form, longest)]
                for length in range(longest + 1):
                    self.assertEqual(count_files(form, length), lengths.count(length), (form, length))

    def test_counts_of_a_sum_of_lengths(self):
        # Behind no head: the stop, or a chunk of 2 to 5 signs and then the same again.
        form = D[:1] + ((),) + D[2:]
        many = [0, 1]
        for length in range(2, 41):
            many.append(sum(4 ** body * many[length - 2 - body] for body in range(4) if length - 2 - body >= 0))
        self.assertEqual([count_files(form, length) for length in range(41)], many)

    def test_room_counts_all_signs(self):
        form = (4, (), "one", 0, ((3, "end"),), "refuse")
        self.assertEqual(count_files(form, 40), 4 ** 39)
        self.assertEqual(count_files(form, 0), 0)

    def test_wrong_lengths(self):
        for length in WRONG_LENGTHS:
            with self.assertRaises(InvalidLength):
                count_files(A, length)
            with self.assertRaises(InvalidLength):
                nth_file(A, length, 0)


class NthTest(unittest.TestCase):

    def test_files_and_their_indexes(self):
        for form, rows in (
            (A, [(1, 0, 0), (1, 1, 0), (1, 2, 0), (1, 3, 0)]), (E, [(0, 1, 0), (0, 1, 1)]), (C, [(2,)]), (F, [()]),
            (D, [(1, 2, 2, 1, sign, 0) for sign in range(4)]),
        ):
            for index, file in enumerate(rows):
                with self.subTest(form=form, index=index):
                    self.assertEqual(nth_file(form, len(file), index), file)
                    self.assertEqual(file_index(form, file), index)

    def test_by_trying(self):
        for base, longest in SMALL:
            for form in some_formats(base, 40, 12):
                files = list(contents(form, longest))
                for length in range(longest + 1):
                    rows = [file for file in files if len(file) == length]
                    for index in list(range(len(rows)))[:30] + list(range(len(rows)))[-30:]:
                        self.assertEqual(nth_file(form, length, index), rows[index], (form, length, index))
                        self.assertEqual(file_index(form, rows[index]), index, (form, rows[index]))

    def test_both_ends_and_just_outside(self):
        for form, length in ((A, 3), (A, 40), (D, 6), (E, 0), (ALL_SKIP, 7), (F, 21)):
            many = count_files(form, length)
            self.assertGreater(many, 0)
            for index in (0, many // 3, many - 1):
                file = nth_file(form, length, index)
                self.assertEqual(len(file), length)
                self.assertIsNotNone(told(form, file))
                self.assertEqual(file_index(form, file), index)
            for index in (-1, -many, many, many + 1):
                with self.assertRaises(InvalidIndex):
                    nth_file(form, length, index)

    def test_ascending(self):
        many = count_files(A, 7)
        rows = [nth_file(A, 7, index) for index in range(many)]
        self.assertEqual(rows, sorted(set(rows)))

    def test_no_files_of_a_length(self):
        for form, length in ((A, 0), (A, 4), (C, 0), (C, 2), (E, 1)):
            self.assertEqual(count_files(form, length), 0)
            for index in (0, 1, -1):
                with self.assertRaises(InvalidIndex):
                    nth_file(form, length, index)

    def test_wrong_indexes(self):
        for index in (True, False, None, 0.0, "0", b"0", (0,), [0], {}, 0j):
            with self.assertRaises(InvalidIndex):
                nth_file(A, 3, index)

    def test_files_are_tuples_of_integers(self):
        file = nth_file(A, 6, 5)
        self.assertIs(file.__class__, tuple)
        self.assertEqual({sign.__class__ for sign in file}, {int})

    def test_refused_files(self):
        for form in (A, B, C, D, E, F):
            for file in list(all_files(form[0], 4)):
                found = outcome(form, file)
                if found is not None:
                    with self.assertRaises(Refused) as caught:
                        file_index(form, file)
                    self.assertEqual((caught.exception.index, caught.exception.word), found)


class AlikeTest(unittest.TestCase):

    def assert_parting(self, one, other, file):
        self.assertEqual(parting(one, other), file, (one, other))
        self.assertEqual(parting(other, one), file, (other, one))
        self.assertIs(alike(one, other), file is None)
        self.assertIs(alike(other, one), file is None)

    def test_the_same_format(self):
        for form in (A, B, C, D, E, F, ALL_SKIP):
            self.assert_parting(form, form, None)

    def test_formats_written_otherwise(self):
        plain = (3, (1,), "one", 2, ((0, "stop"), (1, "keep")), "refuse")
        for other in (
            # A body that is kept or passed over is read alike.
            (3, (1,), "one", 2, ((0, "stop"), (1, "skip")), "refuse"),
            # No length is above what the width can write.
            (3, (1,), "one", 3, ((0, "stop"), (1, "keep")), "refuse"),
            (3, (1,), "one", 999, ((0, "stop"), (1, "keep")), "refuse"),
        ):
            self.assert_parting(plain, other, None)
        self.assert_parting((3, (), "one", 2, ((0, "skip"), (2, "skip")), "skip"), (3, (), "one", 2, (), "skip"), None)
        self.assert_parting((2, (), "one", 9, ((0, "skip"), (1, "keep")), "refuse"), (2, (), "one", 9, (), "skip"), None)
        # With the greatest length 0 and no check, the widths high and low are alike.
        self.assert_parting((2, (), "high", 0, (), "skip"), (2, (), "low", 0, (), "skip"), None)
        # Without chunks no width and no length matters.
        end = ((0, "end"),)
        self.assert_parting((2, (None,), "high", 5, end, "refuse"), (2, (None,), "one", 0, end, "refuse"), None)
        # Where each sign is an end, there are no others and no lengths.
        ends = ((0, "stop"), (1, "end"))
        self.assert_parting((2, (), "one", 1, ends, "skip"), (2, (), "low", 3, ends, "refuse"), None)

    def test_least_file_of_just_one(self):
        for one, other, file in (
            (A, D, (1, 0, 0)), (A, C, (2,)), (C, F, ()), (A, B, (0, 2, 0)),
            ((2, (), "one", 1, ((0, "stop"),), "refuse"), (2, (), "one", 1, ((0, "end"),), "refuse"), (0, 0)),
            ((2, (), "high", 2, (), "skip"), (2, (), "low", 2, (), "skip"), (0, 0, 1, 0)),
            ((2, (0,), "one", 1, (), "refuse"), (2, (1,), "one", 1, (), "refuse"), (0,)),
            ((2, (), "one", 1, ((1, "keep"),), "refuse"), (2, (), "one", 1, ((1, "check"),), "refuse"), (1, 0)),
            ((2, (), "one", 0, (), "skip"), (2, (), "one", 1, (), "skip"), (0, 1, 0)),
        ):
            self.assert_parting(one, other, file)

    def test_by_trying(self):
        for base, longest in SMALL:
            some = some_formats(base, 10, 13)
            for one in some[:2]:
                for other in list(varied_formats(one)) + some:
                    mine, theirs = contents(one, longest), contents(other, longest)
                    parted = [file for file in {**mine, **theirs} if (file in mine) != (file in theirs)]
                    found = parting(one, other)
                    if parted:
                        self.assertEqual(found, min(parted, key=order), (one, other))
                    elif found is not None:
                        self.assertGreater(len(found), longest)
                        self.assertNotEqual(told(one, found) is None, told(other, found) is None)
                    self.assertIs(alike(one, other), found is None)

    def test_other_bases(self):
        great = (256, (255,) * 20, "high", 65535, tuple((k, "check") for k in range(20)), "skip")
        for one, other in ((A, E), (E, A), (A, great), (great, A)):
            for function in (alike, parting):
                with self.assertRaises(OtherBase):
                    function(one, other)


if __name__ == "__main__":
    unittest.main()
