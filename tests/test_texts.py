"""Formats and files as texts: point [20]."""

import itertools
import random
import re
import unittest

from bothreaders.errors import InvalidFile, InvalidFormat, InvalidText
from bothreaders.formats import is_format
from bothreaders.texts import parse_file, parse_format, show_file, show_format
from tests.reference import (
    A, ALL_REFUSE, ALL_SKIP, B, C, D, E, F, ODD_VALUES, WRONG_FILES, WRONG_FORMATS, Sulking, all_files, some_formats, varied_formats,
)

GREAT = (256, (255, None, 0) * 6 + (100, None), "high", 999999999, tuple((k + 100, "check") for k in range(20)), "refuse")
TEXTS = (
    (A, "base 4; head 1 *; width one; most 3; tags 0 stop, 2 keep; others skip"),
    (B, "base 4; head * 2; width one; most 2; tags 0 end, 1 check, 3 keep; others refuse"),
    (C, "base 4; head 2; width one; most 0; tags; others refuse"),
    (D, "base 4; head 1 2; width one; most 3; tags 0 stop, 2 keep; others refuse"),
    (E, "base 2; head; width one; most 9; tags 0 keep; others refuse"),
    (F, "base 4; head; width low; most 2; tags 1 check; others skip"),
    ((4, (), "low", 9, ((1, "check"),), "skip"), "base 4; head; width low; most 9; tags 1 check; others skip"),
    ((10, (), "high", 10, (), "skip"), "base 10; head; width high; most 10; tags; others skip"),
    ((256, (None,), "one", 999999999, ((255, "skip"),), "skip"), "base 256; head *; width one; most 999999999; tags 255 skip; others skip"),
)

# A second reckoning of the texts of formats, by a pattern.
NUMBER = "(?:0|[1-9][0-9]*)"
TAG = f"{NUMBER} (?:keep|check|skip|end|stop)"
PATTERN = re.compile(
    rf"base ({NUMBER}); head((?: (?:{NUMBER}|\*))*); width (one|high|low); most ({NUMBER}); "
    rf"tags((?: {TAG}(?:, {TAG})*)?); others (skip|refuse)"
)


def format_of(text):
    """The format of a text, None if there is none."""
    found = PATTERN.fullmatch(text)
    if found is None:
        return None
    base, head, width, most, tags, others = found.groups()
    marks = tuple(None if mark == "*" else int(mark) for mark in head.split())
    uses = tuple((int(sign), use) for sign, use in re.findall(r"([0-9]+) ([a-z]+)", tags))
    form = (int(base), marks, width, int(most), uses, others)
    return form if is_format(form) else None


class FormatTextTest(unittest.TestCase):

    def assert_no_format(self, text):
        with self.assertRaises(InvalidText, msg=repr(text)[:90]):
            parse_format(text)

    def test_texts(self):
        for form, text in TEXTS:
            self.assertEqual(show_format(form), text)
            self.assertEqual(parse_format(text), form)
            self.assertEqual(format_of(text), form)

    def test_what_is_parsed_are_tuples_words_and_integers(self):
        form = parse_format(TEXTS[0][1])
        self.assertEqual([part.__class__ for part in form], [int, tuple, str, int, tuple, str])
        self.assertEqual({sign.__class__ for sign, _ in form[4]} | {form[1][0].__class__}, {int})

    def test_all_are_read_as_they_are_written(self):
        for base in (2, 3, 4, 16, 256):
            for form in some_formats(base, 30, 90):
                self.assertEqual(parse_format(show_format(form)), form)
                self.assertEqual(format_of(show_format(form)), form)
                if base < 5:
                    for other in varied_formats(form):
                        self.assertEqual(parse_format(show_format(other)), other)
        for form in (GREAT, ALL_SKIP, ALL_REFUSE):
            self.assertEqual(parse_format(show_format(form)), form)

    def test_unlike_formats_have_unlike_texts(self):
        every = {form for base in (2, 3) for some in some_formats(base, 30, 91) for form in varied_formats(some)}
        self.assertEqual(len({show_format(form) for form in every}), len(every))

    def test_texts_of_another_form(self):
        for text in (
            "", " ", "base", "base 4", "empty", ";", "; ; ; ; ; ", TEXTS[0][1] + " ", " " + TEXTS[0][1], TEXTS[0][1] + "; ", TEXTS[0][1] + "\n",
            TEXTS[0][1].upper(), TEXTS[0][1].replace("; ", ";"), TEXTS[0][1].replace(", ", ","), TEXTS[0][1].replace(", ", ",  "),
            TEXTS[0][1].replace("; ", ";  "), TEXTS[0][1].replace(" ", "  "), TEXTS[0][1].replace("base 4", "base 04"),
            TEXTS[0][1].replace("base 4", "base +4"), TEXTS[0][1].replace("base 4", "base 4.0"), TEXTS[0][1].replace("base 4", "base 4_0"),
            TEXTS[0][1].replace("base 4", "base"), TEXTS[0][1].replace("base 4", "base "), TEXTS[0][1].replace("base 4", "base four"),
            TEXTS[0][1].replace("base 4", "base 1"), TEXTS[0][1].replace("base 4", "base 257"), TEXTS[0][1].replace("base 4", "base -4"),
            TEXTS[0][1].replace("base 4", "base 4 4"), TEXTS[0][1].replace("base 4", "Base 4"), TEXTS[0][1].replace("base 4", "base*"),
            TEXTS[0][1].replace("head 1 *", "head 1*"), TEXTS[0][1].replace("head 1 *", "head 1 * "), TEXTS[0][1].replace("head 1 *", "head  1 *"),
            TEXTS[0][1].replace("head 1 *", "head 1  *"), TEXTS[0][1].replace("head 1 *", "head 4"), TEXTS[0][1].replace("head 1 *", "head 01"),
            TEXTS[0][1].replace("head 1 *", "head None"), TEXTS[0][1].replace("head 1 *", "head 1, *"), TEXTS[0][1].replace("head 1 *", "head "),
            TEXTS[0][1].replace("head 1 *", "head -1"), TEXTS[0][1].replace("head 1 *", "head **"), TEXTS[0][1].replace("head 1 *", ""),
            TEXTS[0][1].replace("width one", "width"), TEXTS[0][1].replace("width one", "width two"), TEXTS[0][1].replace("width one", "width one one"),
            TEXTS[0][1].replace("width one", "width 1"), TEXTS[0][1].replace("width one", "one"), TEXTS[0][1].replace("most 3", "most"),
            TEXTS[0][1].replace("most 3", "most -1"), TEXTS[0][1].replace("most 3", "most 03"), TEXTS[0][1].replace("most 3", "most *"),
            TEXTS[0][1].replace("most 3", "most 3 3"), TEXTS[0][1].replace("most 3", "most 00"), TEXTS[0][1].replace("most 3", "least 3"),
            TEXTS[0][1].replace("0 stop, 2 keep", "2 keep, 0 stop"), TEXTS[0][1].replace("0 stop, 2 keep", "0 stop, 0 keep"),
            TEXTS[0][1].replace("0 stop, 2 keep", "0 stop, 2 keep, "), TEXTS[0][1].replace("0 stop, 2 keep", ", 0 stop"),
            TEXTS[0][1].replace("0 stop, 2 keep", "0 stop 2 keep"), TEXTS[0][1].replace("0 stop, 2 keep", "0 stop, 2"),
            TEXTS[0][1].replace("0 stop, 2 keep", "0 stop, 4 keep"), TEXTS[0][1].replace("0 stop, 2 keep", "0 refuse"),
            TEXTS[0][1].replace("0 stop, 2 keep", "0 stop, 02 keep"), TEXTS[0][1].replace("0 stop, 2 keep", "0  stop"),
            TEXTS[0][1].replace("0 stop, 2 keep", "0stop"), TEXTS[0][1].replace("0 stop, 2 keep", "0 stop keep"),
            TEXTS[0][1].replace("tags 0 stop, 2 keep", "tags "), TEXTS[0][1].replace("tags 0 stop, 2 keep", ""), TEXTS[0][1].replace("tags", "tag"),
            TEXTS[0][1].replace("others skip", "others"), TEXTS[0][1].replace("others skip", "others keep"), TEXTS[0][1].replace("others skip", "skip"),
            "head 1 *; base 4; width one; most 3; tags 0 stop, 2 keep; others skip", TEXTS[0][1].replace("; width one", ""),
            TEXTS[0][1].replace("width one", "width one; width one"), "; ".join(TEXTS[0][1].split("; ")[:5]),
        ):
            with self.subTest(text=text):
                self.assertNotIn(text, dict((text, form) for form, text in TEXTS))
                self.assert_no_format(text)
                self.assertIsNone(format_of(text))

    def test_digits_of_other_scripts(self):
        for digit in ("\u0664", "\u00b2", "\u2463", "\uff14", "\u09ea"):
            for word in ("base 4", "most 3", "head 1", "2 keep"):
                self.assert_no_format(TEXTS[0][1].replace(word, word.replace(word.strip("abcdehkmopst "), digit)))

    def test_one_letter_more_less_or_another(self):
        """All texts that differ from that of a format by one letter, against the pattern."""
        good = 0
        for form in (A, C, E, (10, (10 - 1, None), "low", 10, ((0, "end"), (9, "skip")), "refuse")):
            text = show_format(form)
            near = {text[:k] + more + text[k + drop:] for k in range(len(text) + 1) for drop in (0, 1)
                    for more in ["", " ", "*", ";", ",", "; ", ", "] + list("0123459skt-+_.")}
            for other in near:
                expected = format_of(other)
                good += expected is not None
                if expected is None:
                    self.assert_no_format(other)
                else:
                    self.assertEqual(parse_format(other), expected, other)
        self.assertGreater(good, 60)

    def test_parts_put_together_at_random(self):
        chance = random.Random(92)
        words = ["base", "head", "width", "most", "tags", "others", " ", "; ", ", ", "*", "0", "1", "2", "10", "one", "keep", "stop", "skip", "refuse"]
        for _ in range(3000):
            parts = TEXTS[chance.randrange(len(TEXTS))][1].split("; ")
            k = chance.randrange(6)
            parts[k] = "".join(chance.choice(words) for _ in range(chance.randrange(1, 5)))
            text = "; ".join(parts)
            if format_of(text) is None:
                self.assert_no_format(text)
            else:
                self.assertEqual(parse_format(text), format_of(text))

    def test_values_that_are_no_texts(self):
        for value in ODD_VALUES + (A, list(TEXTS[0][1]), TEXTS[0][1].encode(), (TEXTS[0][1],), [TEXTS[0][1]], Sulking()):
            self.assert_no_format(value)

    def test_wrong_formats(self):
        for form in WRONG_FORMATS:
            with self.assertRaises(InvalidFormat):
                show_format(form)

    def test_great_numbers(self):
        for digits in (9, 10, 30, 300):
            form = A[:3] + (int("9" * digits),) + A[4:]
            self.assertEqual(parse_format(show_format(form)), form)
        for digits in (10, 1400, 5000):
            self.assert_no_format(TEXTS[0][1].replace("base 4", "base " + "4" * digits))
            self.assert_no_format(TEXTS[0][1].replace("head 1", "head " + "4" * digits))
            with self.assertRaises(InvalidText):
                parse_file(A, "1" * digits)


class FileTextTest(unittest.TestCase):

    def assert_no_file(self, form, text):
        with self.assertRaises(InvalidText, msg=repr(text)[:90]):
            parse_file(form, text)

    def test_texts(self):
        for form, file, text in (
            (A, (), "empty"), (A, (1, 2, 0), "1 2 0"), (A, (0,), "0"), (A, (3, 3, 3, 3), "3 3 3 3"), (E, (1, 0), "1 0"),
            (GREAT, (255, 0, 10, 100), "255 0 10 100"), (GREAT, (), "empty"),
        ):
            self.assertEqual(show_file(form, file), text)
            found = parse_file(form, text)
            self.assertEqual(found, file)
            self.assertIs(found.__class__, tuple)
            self.assertTrue(all(sign.__class__ is int for sign in found))

    def test_a_file_need_not_be_read(self):
        self.assertEqual(parse_file(A, "0 0 0"), (0, 0, 0))
        self.assertEqual(show_file(A, (0, 0, 0)), "0 0 0")

    def test_all_texts_of_a_short_length(self):
        for form, letters, longest in ((A, "0134 ", 5), (GREAT, "0256 ", 6), (E, "01e ", 6)):
            words = {str(sign): sign for sign in range(form[0])}
            read = 0
            for length in range(longest + 1):
                for row in itertools.product(letters, repeat=length):
                    text = "".join(row)
                    signs = tuple(words.get(word) for word in text.split(" "))
                    if None in signs:
                        self.assert_no_file(form, text)
                    else:
                        self.assertEqual(parse_file(form, text), signs)
                        self.assertEqual(show_file(form, signs), text)
                        read += 1
            self.assertGreater(read, 10)

    def test_all_files_of_a_short_length(self):
        for form in (A, E, ALL_SKIP):
            texts = {show_file(form, file): file for file in all_files(form[0], 5)}
            self.assertEqual(len(texts), len(list(all_files(form[0], 5))))
            for text, file in texts.items():
                self.assertEqual(parse_file(form, text), file)

    def test_texts_of_another_form(self):
        for text in (
            "", " ", "1 ", " 1", "1  2", "1,2", "1, 2", "01", "00", "1 02", "+1", "-1", "-0", "4", "1 4", "1.0", "1_0", "*", "1 *", "one", "Empty",
            "empty ", " empty", "empty 1", "1 empty", "EMPTY", "1\n", "1\n2", "1\t2", "()", "(1, 2)", "1;2", "\u0661", "\u00b9", "1 \u00b2",
        ):
            self.assert_no_file(A, text)

    def test_values_that_are_no_texts(self):
        for value in ODD_VALUES + ((1, 2, 0), ["1", "2"], b"1 2", A, Sulking()):
            self.assert_no_file(A, value)

    def test_wrong_files_and_formats(self):
        for file in WRONG_FILES:
            with self.assertRaises(InvalidFile):
                show_file(A, file)
        for form in WRONG_FORMATS:
            with self.assertRaises(InvalidFormat):
                show_file(form, None)
            with self.assertRaises(InvalidFormat):
                parse_file(form, None)

    def test_long_files(self):
        file = tuple(k % 4 for k in range(750))
        self.assertLess(len(show_file(A, file)), 1500)
        self.assertEqual(parse_file(A, show_file(A, file)), file)
        # What the package returns may be passed back, even if it is larger.
        self.assertEqual(parse_file(A, show_file(A, file * 50)), file * 50)


if __name__ == "__main__":
    unittest.main()
