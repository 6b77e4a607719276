"""The limits of point [2], in a moment's time."""

import time
import unittest

from bothreaders.commons import common, completion, count_common, doomed, is_table, refused_by, table
from bothreaders.errors import OtherBase
from bothreaders.faces import lost, relayed, safe_pairs, two_faced, unlike
from bothreaders.files import alike, count_files, file_index, nth_file, parting
from bothreaders.formats import is_file, is_format, stand_behind, stands
from bothreaders.readers import is_content, looked_at, read, refusal, write
from bothreaders.washing import dressed, dressed_as, hanging, steady, washed

# Far above what each test takes, so that a slow or busy computer is no fault.
MOMENT = 10.0

HEAD = tuple(None if k % 3 == 0 else 255 - k for k in range(20))
USES = ("keep", "check", "skip", "end", "stop")
TAGS = tuple((10 * k, USES[k % 5]) for k in range(20))


# Sections 4 to 6: base 4, 4 marks, lengths to 5, 4 tags. LOW and HIGH have no
# common file, and many pairs of stands before that is sure.
LOW = (4, (None, None, 2, 0), "low", 5, ((0, "keep"), (1, "check"), (3, "stop")), "skip")
HIGH = (4, (1, None, None, None), "high", 5, ((0, "stop"), (1, "keep"), (2, "skip"), (3, "check")), "refuse")
CHECKS = (4, (1, None, 2, 0), "high", 5, ((0, "check"), (1, "check"), (2, "keep"), (3, "skip")), "refuse")
KEEPS = (4, (1, 1, 2, 0), "low", 5, ((0, "keep"), (1, "keep"), (2, "keep"), (3, "check")), "refuse")
SKIPS = (4, (None, None, None, None), "one", 5, ((0, "skip"), (1, "end"), (2, "keep"), (3, "check")), "skip")
FIVE = [LOW, HIGH, CHECKS, KEEPS, SKIPS]

# Section 7: base 16, 6 marks, lengths to 40, and files of 40 signs all but 7
# of which the one reader does not look at.
FREE = (16, (None,) * 5 + (3,), "one", 40, ((0, "end"), (1, "keep")), "skip")
FILE = (7,) * 5 + (3, 0) + (5,) * 33


def wide(width, many):
    return (16, (None, None, None, 7, None, 3), width, 40, tuple((k, USES[k % many]) for k in range(16)), "skip")


def greatest(width):
    return (256, HEAD, width, 65535, TAGS, "refuse")


class LimitsTest(unittest.TestCase):

    def setUp(self):
        self.begun = time.perf_counter()

    def tearDown(self):
        self.assertLess(time.perf_counter() - self.begun, MOMENT)

    def test_formats(self):
        for width in ("one", "high", "low"):
            self.assertIs(is_format(greatest(width)), True)
            self.assertIs(is_format((256, HEAD, width, 999999999, TAGS, "skip")), True)

    def test_files_of_200_signs(self):
        start = tuple(0 if mark is None else mark for mark in HEAD)
        file = start + (170, 0, 156) + (7,) * 156 + (10, 0, 16) + (255,) * 16 + (239, 30)
        for form, signs in ((greatest("high"), file), (greatest("low"), swapped(file))):
            self.assertEqual(len(signs), 200)
            for _ in range(50):
                self.assertIs(is_file(form, signs), True)
                self.assertEqual(stand_behind(form, signs), None)
                self.assertEqual(refusal(form, signs), (198, "check"))
            right = signs[:198] + (240, 30)
            self.assertEqual(stand_behind(form, right), ("room",))
            self.assertEqual(read(form, right), ((10, (255,) * 16),))
            looked = [k for k in range(20) if k % 3] + [20, 21, 22] + list(range(179, 200))
            self.assertEqual(looked_at(form, right), looked)

    def test_contents_of_20_chunks_with_bodies_of_1700_signs(self):
        told = [tag for tag, use in TAGS if use in ("keep", "check")]
        content = tuple((told[k % len(told)], tuple((k + at) % 256 for at in range(1700))) for k in range(20))
        for width in ("high", "low"):
            form = greatest(width)
            self.assertIs(is_content(form, content), True)
            file = write(form, content)
            # What the package returns may be passed back, even if it is larger.
            self.assertGreater(len(file), 34000)
            self.assertEqual(read(form, file), content)
            self.assertIsNone(refusal(form, file))
            self.assertEqual(len(looked_at(form, file)), len(file) - 7)
            self.assertEqual(stand_behind(form, file), ("room",))

    def test_a_body_of_1700_signs_is_above_one_sign(self):
        self.assertIs(is_content(greatest("one"), ((0, (1,) * 1700),)), False)

    def test_length_65535(self):
        form = greatest("high")
        start = tuple(0 if mark is None else mark for mark in HEAD)
        self.assertEqual(stand_behind(form, start + (10, 255, 255)), ("body", "check", 65535, 0))
        self.assertIs(is_content(form, ((10, (1,) * 65535),)), True)
        self.assertIs(is_content(form, ((10, (1,) * 65536),)), False)

    def test_stands(self):
        for width in ("one", "high", "low"):
            for others in ("skip", "refuse"):
                form = (4, (None, 0, 1, 3), width, 5, ((0, "check"), (1, "keep"), (2, "check"), (3, "skip")), others)
                self.assertEqual(len(stands(form)), len(set(stands(form))))

    def test_stands_somewhat_beyond(self):
        form = (16, (None,) * 6, "low", 40, tuple((k, USES[k % 5]) for k in range(16)), "skip")
        found = stands(form)
        self.assertIn(("body", "check", 1, 15), found)
        self.assertIn(("body", "skip", 40, 0), found)


class PairLimitsTest(unittest.TestCase):

    def setUp(self):
        self.begun = time.perf_counter()

    def tearDown(self):
        self.assertLess(time.perf_counter() - self.begun, MOMENT)

    def test_files(self):
        for form in FIVE:
            for length in (39, 40):
                many = count_files(form, length)
                for index in (0, many // 2, many - 1):
                    file = nth_file(form, length, index)
                    self.assertEqual(file_index(form, file), index)

    def test_two_formats(self):
        for one in FIVE:
            for other in FIVE:
                self.assertIs(alike(one, other), one is other)
                self.assertEqual(parting(one, other) is None, one is other)
                self.assertGreaterEqual(count_common(one, other, 40), 0)
                found = common(one, other)
                if found is None:
                    self.assertIs(is_table(one, other, table(one, other)), True)
                    refused_by(one, other)
                else:
                    self.assertIsNone(refusal(other, found))

    def test_a_great_table(self):
        pairs = table(LOW, HIGH)
        self.assertGreater(len(pairs), 500)
        self.assertIs(is_table(LOW, HIGH, pairs * 3), True)
        self.assertIs(is_table(LOW, HIGH, pairs[1:]), False)
        self.assertIsNone(refused_by(LOW, HIGH))

    def test_three_formats(self):
        for formats in ([LOW, HIGH, CHECKS], [LOW, CHECKS, KEEPS], [CHECKS, KEEPS, SKIPS], [LOW, LOW, LOW], [SKIPS, SKIPS, CHECKS]):
            rest = completion(formats, ())
            self.assertEqual(doomed(formats, ()), 0 if rest is None else None)
            for file in ((1, 1, 2, 0) * 50, (1, 1, 2, 0) + (0, 0, 0) * 65 + (1,), (1, 1, 2, 0) + (2, 0, 0) * 65 + (2,)):
                length = doomed(formats, file)
                self.assertEqual(completion(formats, file) is None, length is not None)
                if length:
                    self.assertIsNotNone(completion(formats, file[:length - 1]))

    def test_faces(self):
        for one in FIVE:
            for other in FIVE:
                unlike(one, other)
                self.assertEqual(lost(one, other) is None, one is other)
                if one is other:
                    self.assertIsNone(unlike(one, other))
                    self.assertIsNone(relayed(one, other))
        self.assertEqual(safe_pairs(FIVE), [])
        self.assertEqual(len(safe_pairs([CHECKS] * 5)), 20)

    def test_two_faces(self):
        for one in FIVE:
            for other in FIVE:
                content = greatest_content(one)
                two_faced(one, other, content, ())
                two_faced(one, other, (), greatest_content(other))
                two_faced(one, other, content, greatest_content(other))
                if one is other:
                    self.assertEqual(two_faced(one, other, content, content), write(one, content))

    def test_washing(self):
        for width in ("one", "high", "low"):
            for many in (2, 3, 5):
                other = wide(width, many)
                self.assertEqual(washed(FREE, other, FILE), FILE)
                found = dressed(FREE, other, FILE)
                self.assertIsNone(refusal(other, found))
                self.assertIs(steady(FREE, other, FILE), False)
                self.assertIs(steady(FREE, other, found), False)
                hanging(FREE, other, FILE)
                content = read(other, found)
                self.assertEqual(dressed_as(FREE, other, FILE, content), found)
                # Without a use to pass over the rest, there are no 34 signs of three such chunks.
                self.assertEqual(dressed_as(FREE, other, FILE, ((0, ()),) * 3) is None, many == 2)

    def test_contents_of_ten_chunks(self):
        for width in ("one", "high", "low"):
            other = wide(width, 2)
            longest = 15 if width == "one" else 40
            content = tuple((k, tuple((k + sign) % 16 for sign in range(longest))) for k in range(10))
            self.assertIsNone(dressed_as(FREE, other, FILE, content))
            short = ((0, ()), (3, ())) * 5
            found = dressed_as(FREE, wide(width, 5), FILE, ((0, ()), (1, ())) * 3)
            self.assertEqual(read(wide(width, 5), found), ((0, ()), (1, ())) * 3)
            if width == "one":
                found = dressed_as(FREE, wide(width, 3), FILE, short)
                self.assertEqual(read(wide(width, 3), found), short)

    def test_steady_rooms(self):
        other = (16, (None,) * 6, "low", 40, ((0, "stop"), (1, "check"), (2, "end")), "skip")
        one = (16, (3,) * 6, "one", 40, ((1, "keep"), (2, "end")), "skip")
        file = (3,) * 6 + (2,) + (5,) * 33
        self.assertIs(steady(one, other, file), True)
        self.assertIsNone(washed(one, other, file))
        self.assertEqual(hanging(one, other, file), [])

    def test_greatest_formats_of_unlike_bases(self):
        other = (255, (), "one", 65535, (), "skip")
        for function in (alike, parting, common, table, refused_by, unlike, lost, relayed):
            for one, another in ((greatest("high"), other), (other, greatest("low"))):
                with self.assertRaises(OtherBase):
                    function(one, another)
        for function in (washed, dressed, steady, hanging):
            with self.assertRaises(OtherBase):
                function(greatest("high"), other, (0,) * 200)
        with self.assertRaises(OtherBase):
            is_table(greatest("high"), other, table(LOW, HIGH))
        with self.assertRaises(OtherBase):
            count_common(greatest("high"), other, 40)


def greatest_content(form):
    """Three chunks with bodies of five signs, or of what the width can write."""
    tag = next(tag for tag, use in form[4] if use in ("keep", "check"))
    longest = 3 if form[2] == "one" else 5
    return tuple((tag, tuple((k + at) % 4 for at in range(longest))) for k in range(3))


def swapped(file):
    """The same file with both signs of its lengths exchanged."""
    changed = list(file)
    for at in (21, 180):
        changed[at], changed[at + 1] = changed[at + 1], changed[at]
    return tuple(changed)


if __name__ == "__main__":
    unittest.main()
