"""The stands of a reader: point [5]."""

import unittest

from bothreaders.errors import InvalidFile, InvalidFormat
from bothreaders.formats import stand_behind, stands
from tests.reference import (
    A, ALL_REFUSE, ALL_SKIP, B, C, D, E, F, ODD_VALUES, Sulking, WRONG_FILES, all_files, scan, some_formats,
)


class StandBehindTest(unittest.TestCase):

    def assert_stands(self, form, rows):
        for file, stand in rows:
            with self.subTest(form=form, file=file):
                self.assertEqual(stand_behind(form, file), stand)

    def test_head(self):
        self.assert_stands(A, [((), ("head", 0)), ((1,), ("head", 1)), ((0,), None), ((2,), None)])
        for sign in range(4):
            self.assertEqual(stand_behind(A, (1, sign)), ("tag",))
            self.assertEqual(stand_behind(B, (sign,)), ("head", 1))
        self.assert_stands(D, [((1, 2), ("tag",)), ((1, 1), None), ((1, 3, 0), None)])

    def test_no_head(self):
        self.assert_stands(E, [((), ("tag",)), ((0,), ("length", "keep")), ((1,), None)])

    def test_uses_of_tags(self):
        self.assert_stands(ALL_SKIP, [
            ((0,), ("length", "keep")), ((1,), ("length", "check")), ((2,), ("length", "skip")),
            ((3,), ("room",)), ((4,), ("over",)), ((5,), ("length", "skip")),
        ])
        self.assert_stands(ALL_REFUSE, [((2,), ("length", "skip")), ((4,), ("over",)), ((5,), None)])

    def test_no_tags(self):
        self.assert_stands(C, [((2,), ("tag",)), ((2, 0), None), ((2, 3), None)])
        skip = (3, (), "one", 1, (), "skip")
        self.assert_stands(skip, [((), ("tag",)), ((2,), ("length", "skip")), ((2, 1), ("body", "skip", 1, 0)),
                                  ((2, 1, 2), ("tag",)), ((2, 0), ("tag",)), ((2, 2), None)])

    def test_width_one(self):
        form = (4, (), "one", 2, ((0, "keep"),), "refuse")
        self.assert_stands(form, [((0, 0), ("tag",)), ((0, 1), ("body", "keep", 1, 0)), ((0, 2), ("body", "keep", 2, 0)),
                                  ((0, 3), None)])

    def test_width_high(self):
        form = (4, (), "high", 6, ((0, "keep"),), "refuse")
        self.assert_stands(form, [
            ((0, 0), ("second", "keep", 0)), ((0, 1), ("second", "keep", 1)), ((0, 2), None), ((0, 3), None),
            ((0, 0, 0), ("tag",)), ((0, 0, 3), ("body", "keep", 3, 0)), ((0, 1, 0), ("body", "keep", 4, 0)),
            ((0, 1, 2), ("body", "keep", 6, 0)), ((0, 1, 3), None),
        ])

    def test_width_low(self):
        form = (4, (), "low", 6, ((0, "keep"),), "refuse")
        self.assert_stands(form, [
            ((0, 0), ("second", "keep", 0)), ((0, 3), ("second", "keep", 3)), ((0, 0, 0), ("tag",)),
            ((0, 3, 0), ("body", "keep", 3, 0)), ((0, 2, 1), ("body", "keep", 6, 0)), ((0, 3, 1), None), ((0, 0, 2), None),
        ])
        narrow = (4, (), "low", 2, ((0, "keep"),), "refuse")
        self.assert_stands(narrow, [((0, 2), ("second", "keep", 2)), ((0, 3), None), ((0, 2, 1), None),
                                    ((0, 2, 0), ("body", "keep", 2, 0)), ((0, 0, 1), None)])

    def test_first_sign_at_the_greatest_length(self):
        for base in (3, 256):
            for high in (0, 1, base - 1):
                for low in (0, 1, base - 1):
                    most = high * base + low
                    wide = (base, (), "high", most, ((0, "keep"),), "refuse")
                    self.assertEqual(stand_behind(wide, (0, high)), ("second", "keep", high))
                    if high + 1 < base:
                        self.assertIsNone(stand_behind(wide, (0, high + 1)))
                    self.assertIsNotNone(stand_behind(wide, (0, high, low)))
                    if low + 1 < base:
                        self.assertIsNone(stand_behind(wide, (0, high, low + 1)))

    def test_greatest_length_zero(self):
        for width, written in (("one", (0,)), ("high", (0, 0)), ("low", (0, 0))):
            form = (3, (), width, 0, ((0, "keep"), (1, "check"), (2, "skip")), "refuse")
            self.assert_stands(form, [((0,) + written, ("tag",)), ((1,) + written, ("sum", 0)), ((2,) + written, ("tag",))])
            for sign in (1, 2):
                self.assertIsNone(stand_behind(form, (0, sign)))
                self.assertIsNone(stand_behind(form, (0,) + written[1:] + (sign,)))

    def test_greatest_length_above_the_width(self):
        self.assertEqual(stand_behind(E, (0, 1)), ("body", "keep", 1, 0))
        for width in ("high", "low"):
            form = (2, (), width, 999999999, ((0, "keep"),), "refuse")
            self.assertEqual(stand_behind(form, (0, 1, 1)), ("body", "keep", 3, 0))

    def test_length_zero_of_each_use(self):
        self.assert_stands(ALL_SKIP, [((0, 0), ("tag",)), ((1, 0), ("sum", 0)), ((2, 0), ("tag",)), ((5, 0), ("tag",))])

    def test_bodies(self):
        self.assert_stands(ALL_SKIP, [
            ((0, 3), ("body", "keep", 3, 0)), ((0, 3, 5), ("body", "keep", 2, 0)), ((0, 3, 5, 5), ("body", "keep", 1, 0)),
            ((0, 3, 5, 5, 5), ("tag",)), ((2, 2, 4), ("body", "skip", 1, 0)), ((2, 2, 4, 3), ("tag",)),
            ((5, 1), ("body", "skip", 1, 0)), ((5, 1, 3), ("tag",)),
            ((1, 3), ("body", "check", 3, 0)), ((1, 3, 5), ("body", "check", 2, 5)),
            ((1, 3, 5, 4), ("body", "check", 1, 3)), ((1, 3, 5, 4, 3), ("sum", 0)), ((1, 1, 4), ("sum", 4)),
        ])

    def test_check_signs(self):
        self.assert_stands(ALL_SKIP, [
            ((1, 2, 5, 3, 2), ("tag",)), ((1, 2, 5, 3, 1), None), ((1, 2, 5, 3, 3), None),
            ((1, 0, 0), ("tag",)), ((1, 0, 1), None), ((1, 0, 5), None),
        ])

    def test_behind_an_end_and_a_stop(self):
        self.assert_stands(ALL_SKIP, [((3, 0, 5, 4), ("room",)), ((4, 0), None), ((4, 4), None), ((0, 0, 4), ("over",))])

    def test_a_refused_sign_stays_refused(self):
        for rest in ((), (1,), (0, 0, 0), (2, 0)):
            self.assertIsNone(stand_behind(A, (0,) + rest))
            self.assertIsNone(stand_behind(ALL_SKIP, (4, 0) + rest))

    def test_greatest_base(self):
        form = (256, (255,), "low", 65535, ((254, "check"), (255, "end")), "refuse")
        self.assert_stands(form, [
            ((255, 254, 255), ("second", "check", 255)), ((255, 254, 255, 255), ("body", "check", 65535, 0)),
            ((255, 254, 3, 0, 255, 255), ("body", "check", 1, 254)), ((255, 254, 2, 0, 255, 255), ("sum", 254)),
            ((255, 255, 0), ("room",)),
        ])

    def test_numbers_of_stands_are_integers(self):
        for file in all_files(2, 6):
            stand = stand_behind((2, (), "low", 3, ((0, "check"),), "skip"), file)
            for part in (stand or ())[1:]:
                self.assertIn(part.__class__, (int, str))

    def test_like_the_reference(self):
        for base, longest, many in ((2, 8, 120), (3, 5, 120)):
            for form in some_formats(base, many, 1):
                for file in all_files(base, longest):
                    found = scan(form, file)
                    self.assertEqual(stand_behind(form, file), found.stand, (form, file))

    def test_errors(self):
        for form in ODD_VALUES + (list(A), Sulking()):
            for file in ((), (1,), None, [9]):
                with self.assertRaises(InvalidFormat):
                    stand_behind(form, file)
        for file in WRONG_FILES:
            with self.assertRaises(InvalidFile):
                stand_behind(A, file)

    def test_a_wrong_sign_behind_a_refused_one(self):
        with self.assertRaises(InvalidFile):
            stand_behind(A, (0, 0, 4))


class StandsTest(unittest.TestCase):

    def test_few_stands(self):
        self.assertEqual(stands(E), [("body", "keep", 1, 0), ("length", "keep"), ("tag",)])
        self.assertEqual(stands((2, (), "one", 0, (), "refuse")), [("tag",)])
        self.assertEqual(stands((2, (), "one", 5, ((0, "stop"), (1, "end")), "refuse")), [("over",), ("room",), ("tag",)])
        self.assertEqual(stands((2, (None, 1), "one", 5, ((1, "end"),), "refuse")),
                         [("head", 0), ("head", 1), ("room",), ("tag",)])

    def test_stands_of_checks(self):
        self.assertEqual(stands((2, (), "one", 2, ((1, "check"),), "refuse")), [
            ("body", "check", 1, 0), ("length", "check"), ("sum", 0), ("sum", 1), ("tag",),
        ])
        self.assertEqual(stands((3, (), "one", 2, ((1, "check"),), "refuse")), [
            ("body", "check", 1, 0), ("body", "check", 1, 1), ("body", "check", 1, 2), ("body", "check", 2, 0),
            ("length", "check"), ("sum", 0), ("sum", 1), ("sum", 2), ("tag",),
        ])

    def test_stands_of_two_signs(self):
        self.assertEqual(stands((2, (), "high", 1, ((0, "skip"),), "refuse")), [
            ("body", "skip", 1, 0), ("length", "skip"), ("second", "skip", 0), ("tag",),
        ])
        self.assertEqual(stands(F), [
            ("body", "check", 1, 0), ("body", "check", 1, 1), ("body", "check", 1, 2), ("body", "check", 1, 3),
            ("body", "check", 2, 0), ("body", "skip", 1, 0), ("body", "skip", 2, 0), ("length", "check"),
            ("length", "skip"), ("second", "check", 0), ("second", "check", 1), ("second", "check", 2),
            ("second", "skip", 0), ("second", "skip", 1), ("second", "skip", 2),
            ("sum", 0), ("sum", 1), ("sum", 2), ("sum", 3), ("tag",),
        ])

    def test_all_stands_behind_some_beginning(self):
        for form in some_formats(2, 60, 2):
            form = form[:3] + (min(form[3], 3),) + form[4:]
            found = {stand_behind(form, file) for file in all_files(2, 9)} - {None}
            self.assertEqual(stands(form), sorted(found), form)

    def test_at_the_limits(self):
        tags = ((0, "check"), (1, "keep"), (2, "skip"), (3, "end"))
        found = stands((4, (None, 0, 1, 3), "high", 5, tags, "refuse"))
        # Of the heads, tags, rooms, first signs, second signs, bodies of two
        # uses and of checks (the longest one has no sign of it read yet), sums.
        self.assertEqual(len(found), 4 + 1 + 1 + 3 + 6 + 10 + 17 + 4)
        self.assertEqual(found, sorted(found))

    def test_each_list_is_a_new_one(self):
        one = stands(D)
        other = stands(D)
        self.assertIsNot(one, other)
        one.clear()
        self.assertEqual(len(other), 8)
        self.assertEqual(stands(D), other)

    def test_errors(self):
        for form in ODD_VALUES + (list(A), A[:5], Sulking()):
            with self.assertRaises(InvalidFormat):
                stands(form)


if __name__ == "__main__":
    unittest.main()
