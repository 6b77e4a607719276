"""The limits of point [2], in a moment's time."""

import time
import unittest

from bothreaders.formats import is_file, is_format, stand_behind, stands
from bothreaders.readers import is_content, looked_at, read, refusal, write

MOMENT = 2.0

HEAD = tuple(None if k % 3 == 0 else 255 - k for k in range(20))
USES = ("keep", "check", "skip", "end", "stop")
TAGS = tuple((10 * k, USES[k % 5]) for k in range(20))


def greatest(width):
    return (256, HEAD, width, 65535, TAGS, "refuse")


class LimitsTest(unittest.TestCase):

    def setUp(self):
        self.begun = time.perf_counter()

    def tearDown(self):
        self.assertLess(time.perf_counter() - self.begun, MOMENT)

    def test_formats(self):
        for width in ("one", "high", "low"):
            self.assertIs(is_format(greatest(width)), True)
            self.assertIs(is_format((256, HEAD, width, 999999999, TAGS, "skip")), True)

    def test_files_of_200_signs(self):
        start = tuple(0 if mark is None else mark for mark in HEAD)
        file = start + (170, 0, 156) + (7,) * 156 + (10, 0, 16) + (255,) * 16 + (239, 30)
        for form, signs in ((greatest("high"), file), (greatest("low"), swapped(file))):
            self.assertEqual(len(signs), 200)
            for _ in range(50):
                self.assertIs(is_file(form, signs), True)
                self.assertEqual(stand_behind(form, signs), None)
                self.assertEqual(refusal(form, signs), (198, "check"))
            right = signs[:198] + (240, 30)
            self.assertEqual(stand_behind(form, right), ("room",))
            self.assertEqual(read(form, right), ((10, (255,) * 16),))
            looked = [k for k in range(20) if k % 3] + [20, 21, 22] + list(range(179, 200))
            self.assertEqual(looked_at(form, right), looked)

    def test_contents_of_20_chunks_with_bodies_of_1700_signs(self):
        told = [tag for tag, use in TAGS if use in ("keep", "check")]
        content = tuple((told[k % len(told)], tuple((k + at) % 256 for at in range(1700))) for k in range(20))
        for width in ("high", "low"):
            form = greatest(width)
            self.assertIs(is_content(form, content), True)
            file = write(form, content)
            # What the package returns may be passed back, even if it is larger.
            self.assertGreater(len(file), 34000)
            self.assertEqual(read(form, file), content)
            self.assertIsNone(refusal(form, file))
            self.assertEqual(len(looked_at(form, file)), len(file) - 7)
            self.assertEqual(stand_behind(form, file), ("room",))

    def test_a_body_of_1700_signs_is_above_one_sign(self):
        self.assertIs(is_content(greatest("one"), ((0, (1,) * 1700),)), False)

    def test_length_65535(self):
        form = greatest("high")
        start = tuple(0 if mark is None else mark for mark in HEAD)
        self.assertEqual(stand_behind(form, start + (10, 255, 255)), ("body", "check", 65535, 0))
        self.assertIs(is_content(form, ((10, (1,) * 65535),)), True)
        self.assertIs(is_content(form, ((10, (1,) * 65536),)), False)

    def test_stands(self):
        for width in ("one", "high", "low"):
            for others in ("skip", "refuse"):
                form = (4, (None, 0, 1, 3), width, 5, ((0, "check"), (1, "keep"), (2, "check"), (3, "skip")), others)
                self.assertEqual(len(stands(form)), len(set(stands(form))))

    def test_stands_somewhat_beyond(self):
        form = (16, (None,) * 6, "low", 40, tuple((k, USES[k % 5]) for k in range(16)), "skip")
        found = stands(form)
        self.assertIn(("body", "check", 1, 15), found)
        self.assertIn(("body", "skip", 40, 0), found)


def swapped(file):
    """The same file with both signs of its lengths exchanged."""
    changed = list(file)
    for at in (21, 180):
        changed[at], changed[at + 1] = changed[at + 1], changed[at]
    return tuple(changed)


if __name__ == "__main__":
    unittest.main()
