"""Formats and files: point [4], and integers as point [1] says."""

import itertools
import unittest

from bothreaders.errors import InvalidFormat
from bothreaders.formats import is_file, is_format
from tests.reference import A, ALL_REFUSE, ALL_SKIP, B, C, D, E, F, ODD_VALUES, Sulking

GOOD = (A, B, C, D, E, F, ALL_SKIP, ALL_REFUSE)


def with_part(form, at, value):
    return form[:at] + (value,) + form[at + 1:]


class IsFormatTest(unittest.TestCase):

    def assert_parts(self, at, good, bad):
        """Formats that are good but for one part are formats just if this part is good."""
        for value in good:
            with self.subTest(value=value):
                self.assertIs(is_format(with_part(A, at, value)), True)
        for value in bad:
            with self.subTest(value=repr(value)[:40]):
                self.assertIs(is_format(with_part(A, at, value)), False)

    def test_formats(self):
        for form in GOOD:
            self.assertIs(is_format(form), True)

    def test_any_other_value_is_none(self):
        for value in ODD_VALUES + ((), A[:5], A + (0,), list(A), (A,), dict(enumerate(A)), Sulking()):
            with self.subTest(value=repr(value)[:40]):
                self.assertIs(is_format(value), False)

    def test_a_part_of_another_kind(self):
        # Of the odd values only these are good for a part, by its place.
        good = {0: (), 1: ((), (None,)), 2: ("one",), 3: (0, 1, 10 ** 30), 4: ((),), 5: ("skip",)}
        for form in GOOD:
            for at in range(6):
                for value in ODD_VALUES + (Sulking(), [form[at]], (form[at],)):
                    expected = any(value.__class__ is part.__class__ and value == part for part in good[at])
                    with self.subTest(form=form, at=at, value=repr(value)[:40]):
                        self.assertIs(is_format(with_part(form, at, value)), expected)

    def test_base(self):
        plain = (2, (), "one", 0, (), "skip")
        for base in (2, 3, 4, 16, 255, 256):
            self.assertIs(is_format(with_part(plain, 0, base)), True)
        for base in (-2, 0, 1, 257, 1000, True, False, None, 2.0, "2", (2,)):
            self.assertIs(is_format(with_part(plain, 0, base)), False)

    def test_head(self):
        self.assert_parts(1, [(), (0,), (3,), (None,), (None, 0, None, 3, 3), (None,) * 20],
                          [(4,), (-1,), (0, 4), (True,), (1, False), (1.0,), ("1",), ((1,),), [], [1, None], None, 1])

    def test_width(self):
        self.assert_parts(2, ["one", "high", "low"], ["", "ONE", "two", "one ", "hi", 1, None, b"one", ["one"], ("one",)])

    def test_most(self):
        self.assert_parts(3, [0, 1, 3, 4, 255, 65535, 999999999], [-1, -999, True, False, None, 3.0, "3", (3,)])

    def test_tags(self):
        uses = ("keep", "check", "skip", "end", "stop")
        good = [()] + [((sign, use),) for sign in range(4) for use in uses]
        good += [tuple(enumerate(four)) for four in itertools.product(uses, repeat=4)]
        self.assert_parts(4, good, [
            ((4, "keep"),), ((-1, "keep"),), ((None, "keep"),), ((True, "keep"),), ((0, "keep"), (True, "keep")),
            ((1, "keep"), (0, "keep")), ((0, "keep"), (0, "keep")), ((0, "keep"), (0, "stop")),
            ((0, "keep"), (2, "keep"), (1, "keep")), ((0, "keep"), (1, "keep"), (1, "skip")),
            ((0, "refuse"),), ((0, "other"),), ((0, ""),), ((0, None),), ((0, 1),), ((0, b"keep"),), ((0, ["keep"]),),
            ((0,),), ((0, "keep", "keep"),), ((),), (0, "keep"), ("keep",), ([0, "keep"],), [(0, "keep")], [], None,
            {0: "keep"}, ((0, "keep"), None),
        ])

    def test_others(self):
        self.assert_parts(5, ["skip", "refuse"], ["", "keep", "check", "end", "stop", "Skip", None, True, ("skip",), ["skip"]])

    def test_signs_of_the_greatest_base(self):
        head, tags = (255, None, 0), ((0, "keep"), (255, "stop"))
        self.assertIs(is_format((256, head, "high", 65535, tags, "refuse")), True)
        self.assertIs(is_format((256, (256,), "high", 65535, tags, "refuse")), False)
        self.assertIs(is_format((256, head, "high", 65535, ((256, "stop"),), "refuse")), False)
        self.assertIs(is_format((255, head, "high", 65535, (), "refuse")), False)


class IsFileTest(unittest.TestCase):

    def test_files(self):
        for file in ((), (0,), (3,), (0, 1, 2, 3), (3,) * 200):
            self.assertIs(is_file(A, file), True)
        self.assertIs(is_file((256, (), "one", 0, (), "skip"), tuple(range(256))), True)

    def test_a_file_need_not_be_read(self):
        self.assertIs(is_file(C, (3, 3, 3)), True)

    def test_other_values(self):
        for value in ODD_VALUES + ([], [0, 1], (4,), (0, 4), (-1,), (0, None), (0, True), (False,), (0, 1.0), "01",
                                   b"01", (0, (1,)), ((0, 1),), range(2), {0: 1}, Sulking(), (Sulking(),)):
            with self.subTest(value=repr(value)[:40]):
                self.assertIs(is_file(A, value), False)

    def test_signs_of_the_greatest_base(self):
        self.assertIs(is_file((256, (), "one", 0, (), "skip"), (255,)), True)
        self.assertIs(is_file((256, (), "one", 0, (), "skip"), (256,)), False)

    def test_no_format(self):
        for form in ODD_VALUES + (list(A), A[:5], Sulking()):
            for value in ((), None, (9,)):
                with self.assertRaises(InvalidFormat):
                    is_file(form, value)


if __name__ == "__main__":
    unittest.main()
