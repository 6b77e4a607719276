"""The limits of point [2] for sections 8 to 12, in a moment's time."""

import itertools
import time
import unittest

from bothreaders.commons import common
from bothreaders.errors import Doomed, HasCommon, HasStubborn, OtherBase, TooLong
from bothreaders.files import count_files
from bothreaders.objects import Pair, Reader
from bothreaders.readers import write
from bothreaders.streams import CappedStream, Stream, StrictCappedStream, StrictStream
from bothreaders.texts import parse_file, parse_format, show_file, show_format
from bothreaders.washers import count_stubborn, is_washing_table, stubborn, washing_table
from tests.test_limits import FIVE, MOMENT, greatest

# Section 8: base 3, 3 marks, lengths to 2, 3 tags. Between MANY and GROUPS there are hundreds of (stand, group).
USES = ("keep", "check", "skip", "end", "stop")
HEADS = ((), (1, None, 2), (None, None, None), (None, 0, None))
MANY = (3, (1, None, 2), "one", 2, ((0, "skip"), (1, "check"), (2, "check")), "skip")
GROUPS = (3, (None, None, None), "one", 2, ((0, "skip"), (1, "skip"), (2, "check")), "skip")
# Formats all of whose files can be washed, and how many rows their washing table has.
APART = (
    ((3, (), "one", 2, ((0, "skip"), (1, "stop"), (2, "check")), "skip"),
     (3, (2, 0, 0), "one", 2, ((0, "stop"), (1, "skip"), (2, "keep")), "skip"), 189),
    ((3, (2, 0, None), "one", 2, ((0, "skip"), (1, "check"), (2, "stop")), "skip"),
     (3, (None,), "one", 2, ((0, "skip"), (1, "check"), (2, "keep")), "skip"), 157),
    ((3, (1,), "high", 2, ((0, "skip"), (1, "end"), (2, "check")), "skip"),
     (3, (1,), "low", 2, ((0, "check"), (1, "check"), (2, "skip")), "skip"), 142),
)
GREAT = (256, (255, None) * 10, "high", 999999999, tuple((k + 100, USES[k % 5]) for k in range(20)), "refuse")

# Two formats of base 4 with far more groups than section 8 asks for.
FAR_ONE = (4, (), "low", 5, ((0, "keep"), (1, "check"), (3, "keep")), "skip")
FAR_OTHER = (4, (None, None, 1, 1), "low", 5, ((1, "check"), (2, "end"), (3, "keep")), "skip")


class MomentTest(unittest.TestCase):

    def setUp(self):
        self.begun = time.perf_counter()

    def tearDown(self):
        self.assertLess(time.perf_counter() - self.begun, MOMENT)


class WasherLimitsTest(MomentTest):

    def test_washers(self):
        for k, uses in enumerate(itertools.product(USES, repeat=3)):
            one = (3, HEADS[k % 4], ("one", "high", "low")[k % 3], 2, tuple(enumerate(uses)), "refuse")
            for other in (MANY, GROUPS, one, one[:2] + ("low",) + one[3:]):
                self.assert_washers(one, other)
                if other is not one:
                    self.assert_washers(other, one)

    def assert_washers(self, one, other):
        found = stubborn(one, other)
        if found is None:
            self.assertIs(is_washing_table(one, other, washing_table(one, other)), True)
        else:
            with self.assertRaises(HasStubborn) as caught:
                washing_table(one, other)
            self.assertEqual(caught.exception.file, found)

    def test_lengths_to_20(self):
        for one, other in itertools.product((MANY, GROUPS, GROUPS[:2] + ("low",) + GROUPS[3:]), repeat=2):
            for length in (0, 19, 20, 25):
                many = count_stubborn(one, other, length)
                self.assertLessEqual(many, count_files(one, length))
                if one is other:
                    self.assertEqual(many, count_files(one, length))

    def test_great_washing_tables(self):
        for one, other, many in APART:
            rows = washing_table(one, other)
            self.assertEqual(len(rows), many)
            self.assertIs(is_washing_table(one, other, rows * 5), True)
            self.assertIs(is_washing_table(one, other, rows[1:]), False)
            self.assertIsNone(stubborn(one, other))
            self.assertEqual(count_stubborn(one, other, 20), 0)

    def test_beyond_the_limits(self):
        self.assertEqual(stubborn(FAR_ONE, FAR_OTHER), (0, 0, 1, 1, 2, 0, 0))

    def test_greatest_formats_of_unlike_bases(self):
        other = (255, (), "one", 65535, (), "skip")
        for one, another in ((greatest("high"), other), (other, greatest("low"))):
            for function in (stubborn, washing_table, Pair):
                with self.assertRaises(OtherBase):
                    function(one, another)
            with self.assertRaises(OtherBase):
                count_stubborn(one, another, 20)
            with self.assertRaises(OtherBase):
                is_washing_table(one, another, [])


class TextLimitsTest(MomentTest):

    def test_formats(self):
        for form in (GREAT, GREAT[:2] + ("low",) + GREAT[3:]):
            self.assertEqual(parse_format(show_format(form)), form)

    def test_texts_of_1500_characters(self):
        file = tuple(100 + k % 100 for k in range(375))
        text = show_file(GREAT, file)
        self.assertEqual(len(text), 1499)
        for _ in range(20):
            self.assertEqual(parse_file(GREAT, text), file)

    def test_a_written_file(self):
        content = tuple((101, (k,) * 1700) for k in range(20))
        file = write(GREAT, content)
        self.assertEqual(parse_file(GREAT, show_file(GREAT, file)), file)
        x = Stream.read((GREAT, GREAT, GREAT), show_file(GREAT, file))
        self.assertEqual((len(x), x.done, x[2].told), (len(file), [0, 1, 2], content))


class LiveLimitsTest(MomentTest):

    def test_readers(self):
        form = greatest("low")
        start = tuple(0 if mark is None else mark for mark in form[1])
        reader = Reader(form)
        for sign in start + (10, 255, 255) + (255,) * 37:
            self.assertEqual(reader(sign), "open")
        self.assertEqual(reader.stand, ("body", "check", 65535 - 37, (37 * 255) % 256))
        self.assertEqual(reader.twin().told, ((10, (255,) * 37),))

    def test_pairs(self):
        for one, other in itertools.product(FIVE, repeat=2):
            p = Pair(one, other)
            self.assertIs(bool(p), p.common() is not None)
            if p.unlike() is not None:
                self.assertIn(p.unlike(), p)
            self.assertEqual(p.lost() is None, one is other)
            self.assertIs(p == ~p, True)
            self.assertEqual((p + None) - 1, p)
            p.stubborn()
            p(())
            if p:
                self.assertEqual(p(()), common(one, other))
                with self.assertRaises(HasCommon):
                    p.table()
            else:
                self.assertGreater(len(p.table()), 0)

    def test_equal_pairs(self):
        some = [Pair(one, other) for one, other in itertools.combinations(FIVE, 2)]
        for left, right in itertools.combinations(some, 2):
            if left != right:
                self.assertTrue(left or right)

    def test_streams(self):
        for kind in (Stream, CappedStream):
            x = kind((greatest("high"), greatest("low"), greatest("one")))
            for k in range(20):
                x.put(255 - k if k % 3 else 0)
            self.assertEqual([len(x), x.left], [20, [0, 1, 2]])
            for sign in (10, 0, 7) + (3,) * 17:
                x.put(sign)
            self.assertEqual([len(x), x.left, x[1].stand], [40, [1], ("body", "check", 1775, 51)])

    def test_completions_of_streams(self):
        for formats in itertools.permutations(FIVE, 3):
            x = Stream(formats)
            for sign in (1, 1, 2, 0):
                x.put(sign)
            rest = x.completion()
            if rest is not None:
                left = x.left
                for sign in rest:
                    x.put(sign)
                self.assertEqual((x.left, x.done), (left, left))

    def test_strict_streams(self):
        for formats in itertools.product(cut(FIVE), repeat=3):
            x = StrictCappedStream(formats)
            rest = x.completion()
            for sign in rest or ():
                self.assertEqual(x.put(sign), 3)
            if rest is None:
                with self.assertRaises(Doomed):
                    x.put(0)

    def test_sixty_calls_of_a_strict_stream(self):
        one, other = (4, (None, None), "low", 3, ((0, "keep"), (1, "check"), (2, "skip")), "skip"), (4, (), "low", 3, ((0, "check"),), "skip")
        for formats in ((one, one, one), (one, other, one), (other, one, one[:2] + ("high",) + one[3:])):
            x, y = StrictStream(formats), StrictCappedStream(formats, 7)
            for k in range(60):
                for stream in (x, y):
                    try:
                        stream.put((k * k + 1) % 4)
                    except (Doomed, TooLong):
                        pass
            self.assertEqual(y.signs, x.signs[:7])


def cut(formats):
    """The same formats with at most 2 marks, lengths to 3 and 3 tags."""
    return [(form[0], form[1][:2], form[2], 3, form[4][:3], form[5]) for form in formats]


if __name__ == "__main__":
    unittest.main()
