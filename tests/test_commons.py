"""Files that two formats read: points [10] and [13]."""

import unittest

from bothreaders.commons import common, count_common, is_table, refused_by, table
from bothreaders.errors import HasCommon, InvalidLength, OtherBase
from bothreaders.files import count_files
from tests.reference import A, ALL_REFUSE, ALL_SKIP, B, C, D, E, F, contents, outcome, some_formats, told, varied_formats

SMALL = ((2, 9), (3, 6), (4, 4))

# Formats of base 2 that read no file in common, with the greatest index at which
# each one refuses a file of the other one; None: there is no greatest one.
APART = (
    # Unlike marks.
    ((2, (0,), "one", 1, (), "skip"), (2, (1,), "one", 1, (), "skip"), 0),
    ((2, (None, 0), "one", 1, (), "skip"), (2, (1, 1), "one", 1, (), "skip"), 1),
    # The one reads () alone; the other one begins with a mark, and refuses () as too short.
    ((2, (), "one", 1, (), "refuse"), (2, (1,), "one", 1, (), "skip"), 0),
    # The one is over where the other one has a mark more.
    ((2, (0, None), "one", 0, (), "refuse"), (2, (0, None, None), "one", 0, (), "refuse"), 2),
    # A stop where the other one has still a body to come.
    ((2, (1,), "one", 0, ((1, "stop"),), "refuse"), (2, (), "one", 1, ((1, "keep"),), "refuse"), 2),
    # Chunks of 2 signs from the first one on, and from behind a mark on.
    ((2, (None,), "one", 0, ((0, "skip"), (1, "skip")), "skip"), (2, (), "one", 0, (), "skip"), None),
    # Chunks of 3 signs from the first one on, and behind a mark.
    ((2, (), "high", 0, (), "skip"), (2, (None,), "one", 4, ((0, "check"),), "skip"), None),
    # Some chunks are read by both, then the one is over.
    ((2, (), "low", 1, ((0, "stop"),), "skip"), (2, (1, 1), "high", 0, ((0, "keep"), (1, "end")), "refuse"), 5),
    ((2, (0,), "high", 1, ((0, "stop"), (1, "check")), "refuse"), (2, (0,), "low", 0, ((1, "keep"),), "skip"), 6),
    # The stop of the one is the first sign of a length for the other one.
    ((2, (), "low", 0, ((0, "keep"),), "skip"), (2, (), "low", 2, ((1, "stop"),), "skip"), None),
)


class CommonTest(unittest.TestCase):

    def assert_common(self, one, other, file):
        self.assertEqual(common(one, other), file, (one, other))
        self.assertEqual(common(other, one), file, (other, one))

    def test_least_common_files(self):
        for one, other, file in (
            (A, B, (1, 2, 0)), (A, C, None), (B, C, None), (A, D, (1, 2, 0)), (D, D, (1, 2, 0)), (E, E, ()), (F, F, ()), (C, F, None),
            (ALL_SKIP, ALL_REFUSE, (3,)), (A, F, None),
            ((2, (None,), "one", 0, (), "refuse"), (2, (), "one", 0, (), "skip"), None),
            ((2, (None, 0), "one", 0, (), "refuse"), (2, (), "one", 0, (), "skip"), (0, 0)),
            ((2, (1,), "one", 1, ((1, "end"),), "refuse"), (2, (), "one", 1, ((0, "stop"),), "skip"), (1, 1, 0, 0)),
            ((2, (), "one", 1, ((1, "check"),), "refuse"), (2, (None, None, None, None), "one", 1, (), "refuse"), (1, 1, 0, 0)),
        ):
            self.assert_common(one, other, file)

    def test_the_same_format_reads_its_least_file(self):
        for base, longest in SMALL:
            for form in some_formats(base, 20, 21):
                self.assertEqual(common(form, form), next(iter(contents(form, longest))))

    def test_by_trying(self):
        for base, longest in SMALL:
            some = some_formats(base, 24, 22)
            for one in some:
                for other in some:
                    mine, theirs = contents(one, longest), contents(other, longest)
                    files = [file for file in mine if file in theirs]
                    found = common(one, other)
                    if files:
                        self.assertEqual(found, files[0], (one, other))
                    elif found is not None:
                        self.assertGreater(len(found), longest)
                        self.assertNotIn(None, (told(one, found), told(other, found)))
                    lengths = [len(file) for file in files]
                    for length in (0, 1, longest // 2, longest - 1, longest):
                        self.assertEqual(count_common(one, other, length), lengths.count(length), (one, other, length))

    def test_counts(self):
        self.assertEqual([count_common(A, B, length) for length in range(7)], [0, 0, 0, 1, 0, 1, 4])
        self.assertEqual([count_common(A, C, length) for length in range(4)], [0, 0, 0, 0])
        for form in (A, B, C, D, E, F):
            for length in (0, 1, 2, 7, 40):
                self.assertEqual(count_common(form, form, length), count_files(form, length))
        self.assertEqual(count_common(A, D, 40), count_files(D, 40))

    def test_wrong_lengths(self):
        for length in (-1, True, False, None, 1.0, "1", (1,), [1]):
            with self.assertRaises(InvalidLength):
                count_common(A, B, length)
            # The length is an argument, the bases are looked at behind it.
            with self.assertRaises(InvalidLength):
                count_common(A, E, length)
        with self.assertRaises(OtherBase):
            count_common(A, E, 1)

    def test_other_bases(self):
        great = (256, (255,) * 20, "high", 65535, tuple((k, "check") for k in range(20)), "skip")
        for one, other in ((A, E), (E, A), (A, great), (great, A)):
            for function in (common, table, refused_by):
                with self.assertRaises(OtherBase):
                    function(one, other)
            with self.assertRaises(OtherBase):
                is_table(one, other, [])


class RefusedByTest(unittest.TestCase):

    def test_greatest_indexes(self):
        for one, other, index in APART:
            self.assertIsNone(common(one, other))
            self.assertEqual(refused_by(one, other), index, (one, other))
            self.assertEqual(refused_by(other, one), index, (other, one))

    def test_the_number_of_signs_counts_for_short(self):
        one = (4, (1, None), "one", 0, (), "refuse")
        other = (4, (None, 2, 3), "one", 0, (), "refuse")
        self.assertEqual(outcome(other, (1, 2)), (2, "short"))
        self.assertEqual(refused_by(one, other), 2)
        self.assertEqual(refused_by(other, one), 2)

    def test_a_sign_behind_which_the_one_reads_on(self):
        # The one reads (0, 0, 1), which the other one refuses at index 2.
        one = (2, (0, 0), "one", 0, ((1, "stop"),), "refuse")
        other = (2, (None, None, 0), "one", 0, (), "refuse")
        self.assertEqual(refused_by(one, other), 2)

    def test_a_sign_that_the_one_refuses_itself_does_not_count(self):
        one = (4, (1,), "one", 0, (), "refuse")
        other = (4, (1, 1, 1), "one", 0, (), "refuse")
        self.assertEqual(refused_by(one, other), 1)
        self.assertEqual(refused_by(other, one), 1)

    def test_common_files(self):
        for one, other in ((A, B), (B, A), (A, A), (E, E)):
            with self.assertRaises(HasCommon) as caught:
                refused_by(one, other)
            self.assertEqual(caught.exception.file, common(one, other))

    def test_by_trying(self):
        seen = {None: 0, "index": 0}
        for base, longest in SMALL:
            some = some_formats(base, 24, 23)
            for one in some:
                for other in list(varied_formats(one))[:8] + some[:12]:
                    if common(one, other) is None:
                        self.assert_refused_by(one, other, longest, seen)
        self.assertGreater(min(seen.values()), 20)

    def assert_refused_by(self, one, other, longest, seen):
        found = refused_by(one, other)
        indexes = [outcome(other, file)[0] for file in contents(one, longest)]
        seen[None if found is None else "index"] += 1
        if found is None:
            # Files of any length go on: so there are some beyond each index.
            self.assertTrue(not indexes or max(indexes) >= longest - 7, (one, other))
        else:
            self.assertLessEqual(max(indexes, default=0), found, (one, other))
            # A beginning of so many signs can be completed within some signs more.
            if found <= longest - 7:
                self.assertEqual(max(indexes), found, (one, other))


if __name__ == "__main__":
    unittest.main()
