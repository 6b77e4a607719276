"""Reading and writing one file: points [6] and [7]."""

import itertools
import unittest

from bothreaders.errors import InvalidContent, InvalidFile, InvalidFormat, Refused
from bothreaders.readers import is_content, looked_at, read, refusal, write
from tests.reference import (
    A, ALL_REFUSE, ALL_SKIP, B, C, D, E, F, ODD_VALUES, Sulking, all_files, outcome, scan, some_formats,
)

WRONG_FILES = ([], [1], (4,), (-1,), (0, True), (False,), (None,), (1.0,), "", b"", None, 0, {}, range(1), ((),), Sulking())


class ReadTest(unittest.TestCase):

    def assert_refused(self, form, file, index, word):
        with self.subTest(form=form, file=file):
            self.assertEqual(refusal(form, file), (index, word))
            for function in (read, looked_at):
                with self.assertRaises(Refused) as caught:
                    function(form, file)
                self.assertEqual((caught.exception.index, caught.exception.word), (index, word))

    def assert_read(self, form, file, content, looked):
        with self.subTest(form=form, file=file):
            self.assertIsNone(refusal(form, file))
            self.assertEqual(read(form, file), content)
            self.assertEqual(looked_at(form, file), looked)

    def test_chunks_that_are_told(self):
        self.assert_read(ALL_SKIP, (0, 2, 5, 4, 3), ((0, (5, 4)),), [0, 1, 2, 3, 4])
        self.assert_read(ALL_SKIP, (1, 2, 5, 4, 3, 3), ((1, (5, 4)),), [0, 1, 2, 3, 4, 5])
        self.assert_read(ALL_SKIP, (1, 1, 5, 5, 0, 0, 1, 0, 0, 0, 1, 2, 3), ((1, (5,)), (0, ()), (1, ()), (0, (2,))),
                         list(range(13)))

    def test_chunks_that_are_passed_over(self):
        self.assert_read(ALL_SKIP, (2, 2, 5, 4, 3), (), [0, 1, 4])
        self.assert_read(ALL_SKIP, (5, 2, 5, 4, 4), (), [0, 1, 4])
        self.assert_read(ALL_SKIP, (2, 0, 5, 1, 3, 0, 1, 3, 4), ((0, (3,)),), [0, 1, 2, 3, 5, 6, 7, 8])
        self.assert_read(ALL_REFUSE, (2, 1, 0, 4), (), [0, 1, 3])

    def test_signs_behind_an_end(self):
        self.assert_read(ALL_SKIP, (3,), (), [0])
        self.assert_read(ALL_SKIP, (3, 0, 5, 5, 4, 0), (), [0])
        self.assert_read(B, (1, 2, 0, 3, 1, 1), (), [1, 2])

    def test_signs_behind_a_stop(self):
        self.assert_read(ALL_SKIP, (4,), (), [0])
        self.assert_refused(ALL_SKIP, (4, 0), 1, "behind")
        self.assert_refused(ALL_SKIP, (0, 0, 4, 3, 3), 3, "behind")

    def test_head(self):
        self.assert_read(A, (1, 3, 0), (), [0, 2])
        self.assert_read(C, (2,), (), [0])
        self.assert_refused(A, (0, 3, 0), 0, "head")
        self.assert_refused(D, (1, 1, 0), 1, "head")
        self.assert_refused(B, (2, 3), 1, "head")
        only = (3, (None, None), "one", 1, (), "refuse")
        self.assert_read(only, (2, 0), (), [])

    def test_tags(self):
        self.assert_refused(ALL_REFUSE, (5, 0), 0, "tag")
        self.assert_refused(D, (1, 2, 1), 2, "tag")
        self.assert_refused(D, (1, 2, 2, 0, 3, 0), 4, "tag")
        self.assert_refused(C, (2, 0), 1, "tag")

    def test_lengths(self):
        self.assert_refused(B, (1, 2, 3, 3), 3, "length")
        self.assert_refused((4, (), "high", 6, ((0, "keep"),), "refuse"), (0, 2), 1, "length")
        self.assert_refused((4, (), "high", 6, ((0, "keep"),), "refuse"), (0, 1, 3), 2, "length")
        self.assert_refused((4, (), "low", 6, ((0, "keep"),), "refuse"), (0, 3, 1), 2, "length")
        self.assert_refused(F, (1, 3, 0), 1, "length")
        self.assert_refused(F, (0, 3), 1, "length")
        self.assert_read((4, (), "high", 6, ((0, "keep"),), "skip"), (0, 1, 1, 3, 2, 1, 0, 3), ((0, (3, 2, 1, 0, 3)),),
                         list(range(8)))
        self.assert_read((4, (), "low", 6, ((0, "keep"),), "skip"), (0, 1, 1, 3, 2, 1, 0, 3), ((0, (3, 2, 1, 0, 3)),),
                         list(range(8)))
        self.assert_read((4, (), "low", 6, ((0, "keep"),), "skip"), (3, 0, 1, 3, 2, 1, 0, 0, 1, 0, 3), ((0, (3,)),),
                         [0, 1, 2, 7, 8, 9, 10])

    def test_check_signs(self):
        self.assert_refused(ALL_SKIP, (1, 2, 5, 4, 2, 3), 4, "check")
        self.assert_refused(ALL_SKIP, (1, 0, 3), 2, "check")
        self.assert_read(ALL_SKIP, (1, 0, 0, 3), ((1, ()),), [0, 1, 2, 3])

    def test_length_zero_of_each_use(self):
        self.assert_read(ALL_SKIP, (0, 0, 2, 0, 5, 0, 1, 0, 0, 4), ((0, ()), (1, ())), list(range(10)))

    def test_the_first_refused_sign_counts(self):
        self.assert_refused(A, (3, 0, 1), 0, "head")
        self.assert_refused(ALL_REFUSE, (5, 4, 4, 1, 0, 3), 0, "tag")
        self.assert_refused(ALL_SKIP, (1, 1, 2, 3, 4, 4), 3, "check")

    def test_cut_off_at_each_stand(self):
        form = (4, (1, None), "high", 5, ((0, "stop"), (1, "check"), (2, "keep"), (3, "skip")), "refuse")
        file = (1, 2, 1, 0, 2, 3, 3, 2, 3, 1, 1, 0, 0, 0, 0, 0, 2, 0, 1, 3, 0)
        self.assert_read(form, file, ((1, (3, 3)), (2, (3,))),
                         [0, 2, 3, 4, 5, 6, 7, 8, 9, 10, 16, 17, 18, 19, 20])
        for many in range(len(file)):
            self.assert_refused(form, file[:many], many, "short")

    def test_no_end_and_no_stop(self):
        form = (4, (), "one", 2, ((0, "keep"), (1, "check"), (2, "skip")), "refuse")
        self.assert_read(form, (), (), [])
        self.assert_read(form, (0, 2, 3, 3), ((0, (3, 3)),), [0, 1, 2, 3])
        self.assert_read(form, (2, 1, 3), (), [0, 1])
        self.assert_read(form, (2, 0), (), [0, 1])
        self.assert_refused(form, (0, 2, 3), 3, "short")
        self.assert_refused(form, (0,), 1, "short")
        self.assert_refused(form, (1, 1, 2), 3, "short")
        self.assert_refused(form, (1, 0), 2, "short")

    def test_an_end_or_a_stop_is_asked_for_where_the_format_has_one(self):
        for use in ("end", "stop"):
            form = (4, (1,), "one", 2, ((0, "keep"), (3, use)), "refuse")
            self.assert_refused(form, (), 0, "short")
            self.assert_refused(form, (1,), 1, "short")
            self.assert_refused(form, (1, 0, 1, 2), 4, "short")
            self.assert_read(form, (1, 0, 1, 2, 3), ((0, (2,)),), [0, 1, 2, 3, 4])

    def test_a_file_that_ends_in_its_head(self):
        form = (3, (1, None), "one", 1, (), "skip")
        self.assert_refused(form, (), 0, "short")
        self.assert_refused(form, (1,), 1, "short")
        self.assert_read(form, (1, 2), (), [0])

    def test_the_empty_file(self):
        self.assert_read(E, (), (), [])
        self.assert_read(F, (), (), [])
        for form in (A, B, C, D, ALL_SKIP, ALL_REFUSE):
            self.assert_refused(form, (), 0, "short")

    def test_greatest_base(self):
        form = (256, (255, None), "high", 65535, ((200, "check"), (255, "end")), "refuse")
        body = (255,) * 300
        self.assert_read(form, (255, 0, 200, 1, 44) + body + (300 * 255 - 298 * 256, 255, 9), ((200, body),),
                         [0] + list(range(2, 307)))
        self.assert_refused(form, (255, 0, 200, 1, 44) + body + (0, 255, 9), 305, "check")

    def test_like_the_reference(self):
        for base, longest, many in ((2, 8, 100), (3, 5, 100)):
            for form in some_formats(base, many, 3):
                for file in all_files(base, longest):
                    expected = outcome(form, file)
                    self.assertEqual(refusal(form, file), expected, (form, file))
                    if expected is None:
                        found = scan(form, file)
                        self.assertEqual(read(form, file), tuple(found.content), (form, file))
                        self.assertEqual(looked_at(form, file), found.looked, (form, file))
                    else:
                        for function in (read, looked_at):
                            with self.assertRaises(Refused) as caught:
                                function(form, file)
                            self.assertEqual((caught.exception.index, caught.exception.word), expected, (form, file))

    def test_kinds_of_values(self):
        content = read(ALL_SKIP, (0, 1, 5, 1, 0, 0, 3))
        self.assertEqual([part.__class__ for part in content + content[0]], [tuple, tuple, int, tuple])
        self.assertIs(refusal(A, ()).__class__, tuple)
        self.assertIs(looked_at(E, ()).__class__, list)

    def test_each_list_is_a_new_one(self):
        one = looked_at(A, (1, 3, 0))
        other = looked_at(A, (1, 3, 0))
        self.assertIsNot(one, other)
        one.append(7)
        self.assertEqual(other, [0, 2])
        self.assertEqual(looked_at(A, (1, 3, 0)), [0, 2])

    def test_errors_in_their_order(self):
        for function in (read, refusal, looked_at):
            for form in ODD_VALUES + (list(A), A[:5], Sulking()):
                for file in ((), [], (9,), None):
                    with self.assertRaises(InvalidFormat):
                        function(form, file)
            for file in WRONG_FILES:
                with self.assertRaises(InvalidFile):
                    function(A, file)
            # The first sign would be refused, but a later one is none at all.
            with self.assertRaises(InvalidFile):
                function(A, (0, 0, True))

    def test_arguments_stay_as_they_were(self):
        for function in (read, refusal, looked_at):
            form, file = [4, [1], "one"], [1, 2]
            with self.assertRaises(InvalidFormat):
                function(form, file)
            with self.assertRaises(InvalidFile):
                function(A, file)
            self.assertEqual((form, file), ([4, [1], "one"], [1, 2]))


class ContentTest(unittest.TestCase):

    def test_contents(self):
        for form, value in (
            (A, ()), (A, ((2, ()),)), (A, ((2, (0, 3, 1)),)), (A, ((2, ()), (2, (1,)), (2, ()))), (C, ()),
            (B, ((1, (3, 3)), (3, (0,)), (1, ()))), (E, ((0, (1,)),)), (F, ((1, (3, 0)),)), (ALL_SKIP, ((0, (5,) * 5),)),
        ):
            with self.subTest(form=form, value=value):
                self.assertIs(is_content(form, value), True)

    def test_other_values(self):
        for value in ODD_VALUES + (
            [], [(2, ())], ((2,),), ((2, (), ()),), ((),), (2, ()), ([2, ()],), ((2, [1]),), ((2, None),), ((2, "1"),),
            ((2, b"1"),), ((2, (4,)),), ((2, (-1,)),), ((2, (True,)),), ((2, (None,)),), ((2, (1.0,)),), ((2, ((1,),)),),
            ((True, ()),), ((None, ()),), (("2", ()),), ((2.0, ()),), (((2,), ()),), ((4, ()),), ((-1, ()),),
            ((2, ()), None), (None, (2, ())), ((2, ()), (0, ())), ((2, range(1)),), Sulking(), (Sulking(),),
            ((Sulking(), ()),), ((2, Sulking()),), ((2, (Sulking(),)),),
        ):
            with self.subTest(value=repr(value)[:40]):
                self.assertIs(is_content(A, value), False)
                with self.assertRaises(InvalidContent):
                    write(A, value)

    def test_only_tags_that_are_told(self):
        for form in (ALL_SKIP, ALL_REFUSE):
            self.assertEqual([is_content(form, ((tag, (1,)),)) for tag in range(7)],
                             [True, True, False, False, False, False, False])
        ones = (3, (), "one", 1, ((1, "keep"),), "skip")
        self.assertIs(is_content(ones, ((True, ()),)), False)
        self.assertIs(is_content(C, ((0, ()),)), False)

    def test_greatest_lengths(self):
        for base, width, most, greatest in (
            (4, "one", 0, 0), (4, "one", 2, 2), (4, "one", 3, 3), (4, "one", 4, 3), (4, "one", 99, 3),
            (2, "one", 9, 1), (2, "high", 2, 2), (2, "high", 3, 3), (2, "high", 4, 3), (2, "low", 99, 3), (3, "low", 0, 0),
            (3, "high", 7, 7), (3, "low", 7, 7), (3, "high", 8, 8), (3, "low", 9, 8), (3, "high", 10, 8),
        ):
            for use in ("keep", "check"):
                form = (base, (), width, most, ((1, use),), "refuse")
                with self.subTest(form=form):
                    self.assertIs(is_content(form, ((1, (0,) * greatest),)), True)
                    self.assertIs(is_content(form, ((1, (0,) * (greatest + 1)),)), False)
                    self.assertIs(is_content(form, ((1, ()), (1, (0,) * (greatest + 1)))), False)
                    with self.assertRaises(InvalidContent):
                        write(form, ((1, (0,) * (greatest + 1)),))
                    file = write(form, ((1, (1,) * greatest),))
                    self.assertEqual(read(form, file), ((1, (1,) * greatest),))

    def test_write_heads_and_ends(self):
        for form, content, file in (
            (A, (), (1, 0, 0)), (B, (), (0, 2, 0)), (C, (), (2,)), (D, (), (1, 2, 0)), (E, (), ()), (F, (), ()),
            (ALL_SKIP, (), (3,)), (ALL_REFUSE, (), (3,)),
            ((4, (None, 3, None), "one", 1, ((1, "keep"), (2, "stop"), (3, "end")), "skip"), (), (0, 3, 0, 2)),
            ((4, (), "one", 1, ((0, "skip"), (2, "end"), (3, "stop")), "skip"), (), (2,)),
            ((4, (), "one", 1, ((0, "skip"), (3, "stop")), "skip"), (), (3,)),
        ):
            with self.subTest(form=form):
                self.assertEqual(write(form, content), file)

    def test_write_chunks(self):
        self.assertEqual(write(A, ((2, (3, 1)), (2, ()))), (1, 0, 2, 2, 3, 1, 2, 0, 0))
        self.assertEqual(write(E, ((0, (1,)), (0, ()))), (0, 1, 1, 0, 0))
        self.assertEqual(write(F, ((1, (3, 2)), (1, ()))), (1, 2, 0, 3, 2, 1, 1, 0, 0, 0))
        high = (4, (), "high", 9, ((1, "check"), (2, "keep")), "refuse")
        self.assertEqual(write(high, ((2, (0, 1, 2, 3, 0, 1)),)), (2, 1, 2, 0, 1, 2, 3, 0, 1))
        self.assertEqual(write(high, ((1, (3, 3, 3, 3, 3)), (2, (1,)))), (1, 1, 1, 3, 3, 3, 3, 3, 3, 2, 0, 1, 1))
        low = high[:2] + ("low",) + high[3:]
        self.assertEqual(write(low, ((2, (0, 1, 2, 3, 0, 1)),)), (2, 2, 1, 0, 1, 2, 3, 0, 1))

    def test_write_is_the_least_file(self):
        for base, longest in ((2, 9), (3, 6)):
            for form in some_formats(base, 60, 4):
                least = {}
                for file in all_files(base, longest):
                    if outcome(form, file) is None:
                        least.setdefault(tuple(scan(form, file).content), file)
                for content, file in least.items():
                    self.assertIs(is_content(form, content), True, (form, content))
                    self.assertEqual(write(form, content), file, (form, content))

    def test_is_content_of_some_file(self):
        bodies = [body for length in range(4) for body in itertools.product(range(2), repeat=length)]
        chunks = [(tag, body) for tag in range(2) for body in bodies]
        for form in some_formats(2, 60, 5):
            told = {tuple(scan(form, file).content) for file in all_files(2, 10) if outcome(form, file) is None}
            for content in [()] + [(chunk,) for chunk in chunks]:
                self.assertIs(is_content(form, content), content in told, (form, content))

    def test_what_is_written_is_read(self):
        for form in some_formats(3, 80, 6):
            for content in itertools.product([(tag, body) for tag in range(3) for body in ((), (2,), (2, 1, 2))], repeat=2):
                if is_content(form, content):
                    self.assertEqual(read(form, write(form, content)), content)

    def test_written_files_are_tuples_of_integers(self):
        file = write(ALL_SKIP, ((0, (1,)), (1, (5, 5))))
        self.assertIs(file.__class__, tuple)
        self.assertEqual({sign.__class__ for sign in file}, {int})

    def test_errors_in_their_order(self):
        for function in (is_content, write):
            for form in ODD_VALUES + (list(A), A[:5], Sulking()):
                for content in ((), None, ((9, ()),)):
                    with self.assertRaises(InvalidFormat):
                        function(form, content)

    def test_arguments_stay_as_they_were(self):
        content = [(2, [1, 2])]
        self.assertIs(is_content(A, content), False)
        with self.assertRaises(InvalidContent):
            write(A, content)
        self.assertEqual(content, [(2, [1, 2])])


if __name__ == "__main__":
    unittest.main()
