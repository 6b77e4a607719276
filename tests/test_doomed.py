"""Doomed beginnings and completions: point [12]."""

import itertools
import unittest

from bothreaders.commons import common, completion, doomed
from bothreaders.errors import InvalidFile, InvalidFormats
from tests.reference import (
    A, ALL_SKIP, B, C, D, E, F, WRONG_FILES, WRONG_LISTS, all_files, contents, some_formats, told, varied_formats,
)


def reads(formats, file):
    return all(told(form, file) is not None for form in formats)


class DoomedTest(unittest.TestCase):

    def test_least_lengths(self):
        for formats, file, length in (
            ([A, B], (1, 2, 2), 3), ([A, B], (1, 2), None), ([A, C], (), 0), ([A, B], (0, 2, 0), 1), ([A, B], (1, 0, 0), 2),
            ([A, C], (1, 2, 3, 0, 0), 0), ([A], (1, 0, 0), None), ([A], (1, 0, 0, 1), 4), ([A], (0,), 1), ([A], (), None),
            ([A, B], (1, 2, 0), None), ([A, B], (1, 2, 0, 0), 4), ([C], (2,), None), ([C], (2, 0), 2), ([C], (2, 0, 0, 0), 2),
            ([E], (0, 1, 1), None), ([E], (0, 0, 0), None), ([E], (0, 0, 1), 3), ([A, B, D], (1, 2, 3), 3), ([A, A, A], (1, 3), None),
        ):
            with self.subTest(formats=formats, file=file):
                self.assertEqual(doomed(formats, file), length)

    def test_doomed_though_no_format_refuses_it(self):
        # Behind 1 2 the one has a body to come, and the other one is over at its stop.
        one = (4, (1,), "one", 3, ((2, "keep"),), "refuse")
        other = (4, (1,), "one", 3, ((2, "stop"),), "refuse")
        self.assertEqual(doomed([one, other], (1, 2)), 0)
        self.assertIsNone(doomed([one], (1, 2)))
        self.assertIsNone(doomed([other], (1, 2)))
        # The least file behind the head of the third one has the tag 3, which the others refuse.
        third = (4, (1,), "one", 3, ((3, "stop"),), "skip")
        two = [(4, (1,), "one", 3, ((0, "keep"), (3, "stop")), "refuse"), third]
        self.assertIsNone(doomed(two, (1, 0, 2)))
        self.assertEqual(doomed(two + [other], (1, 0, 2)), 0)

    def test_by_trying(self):
        for base, longest, many in ((2, 9, 20), (3, 6, 20)):
            some = some_formats(base, many, 41)
            for k in range(many - 2):
                for formats in ([some[k]], some[k:k + 2], some[k:k + 3], list(varied_formats(some[k]))[k % 9:][:3]):
                    self.assert_by_trying(formats, base, longest)

    def assert_by_trying(self, formats, base, longest):
        """Each beginning of a common file is not doomed; one that is not doomed is completed to a common file."""
        files = set(contents(formats[0], longest)).intersection(*[contents(form, longest) for form in formats[1:]])
        hopeful = {file[:k] for file in files for k in range(len(file) + 1)}
        for beginning in all_files(base, longest - 4):
            length = doomed(formats, beginning)
            rest = completion(formats, beginning)
            self.assertEqual(length is None, rest is not None, (formats, beginning))
            if beginning in hopeful:
                self.assertIsNone(length, (formats, beginning))
            if rest is not None:
                self.assertTrue(reads(formats, beginning + rest), (formats, beginning, rest))
                if len(beginning + rest) <= longest:
                    self.assertEqual(rest, least_rest(files, beginning), (formats, beginning))
            else:
                # The beginning before it is the last one that can be completed.
                self.assertLessEqual(length, len(beginning))
                self.assertIsNone(completion(formats, beginning[:length]))
                if length > 0:
                    self.assertIsNotNone(completion(formats, beginning[:length - 1]))

    def test_beginnings_of_doomed_ones(self):
        for formats in ([A, B], [A, B, D], [A], [B, D]):
            for file in itertools.product(range(4), repeat=5):
                length = doomed(formats, file)
                for k in range(6):
                    self.assertEqual(doomed(formats, file[:k]), length if length is not None and length <= k else None)

    def test_wrong_lists(self):
        for function in (doomed, completion):
            for formats in WRONG_LISTS:
                for file in ((), (1, 2), None, [9]):
                    with self.subTest(formats=repr(formats)[:50]):
                        with self.assertRaises(InvalidFormats):
                            function(formats, file)

    def test_wrong_files(self):
        for function in (doomed, completion):
            for formats in ([A], [A, B], [A, C], [A, B, D]):
                for file in WRONG_FILES:
                    with self.assertRaises(InvalidFile):
                        function(formats, file)
            with self.assertRaises(InvalidFile):
                function([E], (0, 2))

    def test_a_wrong_sign_behind_a_refused_one(self):
        for function in (doomed, completion):
            with self.assertRaises(InvalidFile):
                function([A, B], (0, 0, 4))

    def test_arguments_stay_as_they_were(self):
        formats = [A, B]
        for function in (doomed, completion):
            function(formats, (1, 2))
            self.assertEqual(formats, [A, B])


class CompletionTest(unittest.TestCase):

    def test_completions(self):
        for formats, beginning, rest in (
            ([A, B], (1,), (2, 0)), ([A], (), (1, 0, 0)), ([A, B], (0,), None), ([A, B], (1, 2, 0), ()), ([A, B], (1, 2, 0, 0), None),
            ([A, C], (), None), ([C], (), (2,)), ([C], (2,), ()), ([E], (), ()), ([E], (0,), (0,)), ([E], (0, 1), (0,)),
            ([F], (1, 2), (0, 0, 0, 0)), ([F], (1, 2, 0, 3), (0, 3)), ([A, B], (1, 2, 3), (0, 0)), ([A, B], (1, 2, 3, 2), (0, 0, 0)),
            ([A, B, D], (), (1, 2, 0)), ([A, B, D], (1, 2, 3), None), ([ALL_SKIP], (0, 5, 1, 1), (0, 0, 0, 3)),
            ([ALL_SKIP], (3, 0, 0), ()), ([ALL_SKIP], (4,), ()), ([ALL_SKIP], (1, 1, 5), (5, 3)),
        ):
            with self.subTest(formats=formats, beginning=beginning):
                self.assertEqual(completion(formats, beginning), rest)

    def test_no_beginning_is_the_least_common_file(self):
        for one in some_formats(3, 20, 42):
            for other in some_formats(3, 20, 43):
                self.assertEqual(completion([one, other], ()), common(one, other))
                self.assertEqual(completion([one, other, one], ()), common(one, other))

    def test_the_fewest_signs_come_first(self):
        # Behind 0 the tag 0 leads to the shortest file; the tag 1 is at an end at once.
        form = (4, (0,), "one", 0, ((0, "keep"), (1, "stop")), "refuse")
        self.assertEqual(completion([form], (0,)), (1,))


def least_rest(files, beginning):
    rests = [file[len(beginning):] for file in files if file[:len(beginning)] == beginning]
    return min(rests, key=lambda rest: (len(rest), rest))


if __name__ == "__main__":
    unittest.main()
