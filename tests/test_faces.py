"""What two formats tell of the same files: points [14] and [15]."""

import itertools
import unittest

from bothreaders.errors import InvalidContent, InvalidFormat, InvalidFormats, OtherBase
from bothreaders.faces import lost, relayed, safe_pairs, two_faced, unlike
from bothreaders.readers import is_content, write
from tests.reference import (
    A, B, C, D, E, F, WRONG_FORMATS, WRONG_LISTS, contents, order, scan, some_formats, told, varied_formats,
)

SMALL = ((2, 9), (3, 6), (4, 4))
GREAT = (256, (255,) * 20, "high", 65535, tuple((k, "check") for k in range(20)), "skip")

WRONG_CONTENTS = (
    None, [], [(2, ())], 0, "", {}, (2, ()), ((2,),), ((2, (), ()),), ((2, [1]),), ((2, (4,)),), ((2, (True,)),), ((0, ()),), ((4, ()),),
    ((True, ()),), ((2, ()), None), ((2, (1, 1, 1, 1)),), True,
)


def pairs_of_formats(base, many, seed):
    """Pairs of a format and one that is like it but for one part, and of any two."""
    some = some_formats(base, many, seed)
    for k, one in enumerate(some):
        for other in list(varied_formats(one))[k % 3::3] + some[:many // 2]:
            yield one, other


def least_by_layers(one, other, longest, refused_too):
    """The least file up to a number of signs that is told unlike (or refused), from beginnings of one length to the next.

    Of the beginnings at the same two stands that told the same parts, the least
    one is kept; the contents are those of the other reader, all that was told
    alike by both is left off.
    """
    layer = {((), ()): ()}
    for _ in range(longest + 1):
        kept = {}
        for file in layer.values():
            mine, theirs = told(one, file), told(other, file)
            if mine is not None and (mine != theirs if theirs is not None else refused_too):
                return file
            for sign in range(one[0]):
                key = key_of(one, other, file + (sign,), refused_too)
                if key is not None:
                    kept.setdefault(key, file + (sign,))
        layer = kept
    return None


def key_of(one, other, file, refused_too):
    mine, theirs = scan(one, file), scan(other, file)
    if mine.refused or theirs.refused and not refused_too:
        return None
    if theirs.refused:
        return mine.stand
    rows = [[part for tag, body in found.content for part in [(tag,)] + list(body)] for found in (mine, theirs)]
    while rows[0] and rows[1] and rows[0][0] == rows[1][0]:
        rows = [row[1:] for row in rows]
    parted = bool(rows[0] and rows[1])
    return mine.stand, theirs.stand, parted or (tuple(rows[0]), tuple(rows[1]))


class UnlikeTest(unittest.TestCase):

    def assert_unlike(self, one, other, file):
        self.assertEqual(unlike(one, other), file, (one, other))
        self.assertEqual(unlike(other, one), file, (other, one))

    def test_least_files(self):
        stop = (0, "stop")
        for one, other, file in (
            (A, B, (1, 2, 3, 0, 0)), (A, D, None), (A, C, None), (A, A, None), (E, E, None),
            # The tags part.
            ((3, (), "one", 1, (stop, (1, "keep")), "skip"), (3, (), "one", 1, (stop, (2, "keep")), "skip"), (1, 0, 0)),
            # The content of the one is a beginning of that of the other one.
            ((3, (), "one", 1, (stop, (1, "keep"), (2, "keep")), "skip"), (3, (), "one", 1, (stop, (1, "keep")), "skip"), (2, 0, 0)),
            # The bodies part.
            ((3, (), "one", 1, ((1, "end"), (2, "keep")), "refuse"), (3, (), "low", 5, ((2, "keep"),), "refuse"), (2, 1, 0, 1)),
            # The body of the one, (), is a beginning of that of the other one, (0, 0, 0).
            ((3, (), "one", 0, ((1, "end"), (2, "keep")), "refuse"), (3, (), "low", 5, ((2, "keep"),), "refuse"), (2, 0, 1, 0, 0, 0)),
            ((2, (None,), "one", 1, ((1, "keep"),), "refuse"), (2, (), "one", 1, ((1, "keep"),), "refuse"), (1, 1, 0)),
            # A room of the one is a chunk for the other one.
            ((2, (), "one", 1, ((0, "end"),), "refuse"), (2, (), "one", 1, ((0, "keep"), (1, "stop")), "refuse"), (0, 0, 1)),
            # All is told alike.
            ((2, (), "one", 1, ((0, "keep"),), "refuse"), (2, (), "one", 9, ((0, "keep"), (1, "keep")), "refuse"), None),
        ):
            self.assert_unlike(one, other, file)

    def test_a_part_that_becomes_even(self):
        # One has told two chunks where the other one has told one; of 7 signs it is 3 and 2.
        one = (2, (), "one", 1, ((0, "keep"), (1, "stop")), "refuse")
        self.assert_unlike(one, one[:2] + ("high",) + one[3:], (0, 0, 0, 0, 0, 0, 1))
        # Both tell (0, (1,)), the one ahead of the other one.
        ahead = (2, (0,), "one", 1, ((0, "keep"),), "refuse")
        self.assert_unlike(ahead, (2, (None, None), "one", 1, ((0, "keep"),), "refuse"), None)

    def test_bodies_that_are_beginnings(self):
        # The one tells (0,), the other one (0, 1).
        form = (2, (), "high", 2, ((0, "keep"), (1, "end")), "refuse")
        self.assert_unlike(form, form[:2] + ("low",) + form[3:], (0, 0, 1, 0, 1, 1))
        # Where a stop has to come for both at once, the file is longer, or there is none.
        form = (2, (), "high", 3, ((0, "keep"), (1, "stop")), "refuse")
        self.assert_unlike(form, form[:2] + ("low",) + form[3:], (0, 0, 1, 0, 0, 0, 1, 1, 0, 0, 0, 1))
        form = (2, (), "high", 2, ((0, "keep"), (1, "stop")), "refuse")
        self.assert_unlike(form, form[:2] + ("low",) + form[3:], None)
        self.assertIsNone(least_by_layers(form, form[:2] + ("low",) + form[3:], 22, False))

    def test_by_trying(self):
        long = 0
        for base, longest in SMALL:
            for one, other in pairs_of_formats(base, 14, 51):
                mine, theirs = contents(one, longest), contents(other, longest)
                files = [file for file in mine if file in theirs and mine[file] != theirs[file]]
                found = unlike(one, other)
                if files:
                    self.assertEqual(found, files[0], (one, other))
                elif found is not None:
                    long += 1
                    self.assertNotIn(None, (told(one, found), told(other, found)))
                    self.assertNotEqual(told(one, found), told(other, found))
                    if len(found) <= 16:
                        self.assertEqual(found, least_by_layers(one, other, len(found), False))
        self.assertGreater(long, 20)

    def test_by_layers_where_there_is_none(self):
        many = 0
        for one, other in pairs_of_formats(2, 10, 52):
            if unlike(one, other) is None and not many > 60:
                self.assertIsNone(least_by_layers(one, other, 18, False), (one, other))
                many += 1
        self.assertGreater(many, 30)


class LostTest(unittest.TestCase):

    def test_least_files(self):
        for one, other, file in (
            (A, B, (1, 0, 0)), (D, A, None), (A, D, (1, 0, 0)), (A, A, None), (A, C, (1, 0, 0)), (C, A, (2,)), (B, A, (0, 2, 0)),
            # Just refused, just told otherwise.
            ((2, (), "one", 0, (), "skip"), (2, (), "one", 0, ((0, "skip"),), "refuse"), (1, 0)),
            ((2, (), "one", 0, (), "skip"), (2, (), "one", 0, ((1, "keep"),), "skip"), (1, 0)),
            # The other one reads more, and what the one reads as the one does.
            ((2, (), "one", 0, ((0, "keep"),), "refuse"), (2, (), "one", 1, ((0, "keep"), (1, "skip")), "refuse"), None),
            ((2, (1,), "one", 1, ((0, "stop"),), "refuse"), (2, (None,), "one", 1, ((0, "end"),), "skip"), None),
            ((2, (1,), "one", 1, ((0, "end"),), "refuse"), (2, (None,), "one", 1, ((0, "stop"),), "skip"), (1, 0, 0)),
            # A room that the other one looks at: its signs may be chunks for it.
            ((2, (), "one", 1, ((1, "end"),), "refuse"), (2, (None,), "one", 1, (), "skip"), (1, 0)),
            ((2, (), "one", 1, ((1, "end"),), "refuse"), (2, (None,), "one", 1, ((0, "end"), (1, "end")), "skip"), (1,)),
        ):
            self.assertEqual(lost(one, other), file, (one, other))

    def test_by_trying(self):
        seen = {"none": 0, "short": 0, "long": 0}
        for base, longest in SMALL:
            for one, other in pairs_of_formats(base, 14, 53):
                mine, theirs = contents(one, longest), contents(other, longest)
                files = [file for file in mine if mine[file] != theirs.get(file)]
                found = lost(one, other)
                if files:
                    seen["short"] += 1
                    self.assertEqual(found, files[0], (one, other))
                elif found is not None:
                    seen["long"] += 1
                    self.assertIsNotNone(told(one, found))
                    self.assertNotEqual(told(one, found), told(other, found))
                    if len(found) <= 16:
                        self.assertEqual(found, least_by_layers(one, other, len(found), True))
                else:
                    seen["none"] += 1
                    if base == 2 and seen["none"] < 60:
                        self.assertIsNone(least_by_layers(one, other, 18, True), (one, other))
        self.assertGreater(seen["none"], 50)

    def test_long_files(self):
        # The formats differ behind long ways alone: the greatest length can be written by two signs only.
        for base, most in ((3, 4), (3, 6), (4, 5)):
            one = (base, (1,), "high", most, ((0, "keep"),), "refuse")
            other = one[:3] + (most - 1,) + one[4:]
            self.assertEqual(lost(one, other), (1, 0, most // base, most % base) + (0,) * most)
            self.assertIsNone(lost(other, one))


class SafePairsTest(unittest.TestCase):

    def test_pairs(self):
        for formats, pairs in (
            ([A, B, D], [(2, 0)]), ([A], []), ([A, A], [(0, 1), (1, 0)]), ([D, A], [(0, 1)]), ([A, B, C], []),
            ([E, E, E], [(0, 1), (0, 2), (1, 0), (1, 2), (2, 0), (2, 1)]), ([D, A, D], [(0, 1), (0, 2), (2, 0), (2, 1)]),
        ):
            self.assertEqual(safe_pairs(formats), pairs)

    def test_like_lost(self):
        for base in (2, 3):
            some = some_formats(base, 12, 54)
            for k, form in enumerate(some):
                formats = list(varied_formats(form))[k:40:8][:4] + [some[k - 1]]
                expected = [(i, j) for i in range(len(formats)) for j in range(len(formats))
                            if i != j and lost(formats[i], formats[j]) is None]
                self.assertEqual(safe_pairs(formats), expected)

    def test_each_list_is_a_new_one(self):
        first = safe_pairs([A, A])
        first.clear()
        self.assertEqual(safe_pairs([A, A]), [(0, 1), (1, 0)])

    def test_wrong_lists(self):
        for formats in WRONG_LISTS:
            with self.subTest(formats=repr(formats)[:50]):
                with self.assertRaises(InvalidFormats):
                    safe_pairs(formats)

    def test_arguments_stay_as_they_were(self):
        formats = [A, B, D]
        safe_pairs(formats)
        self.assertEqual(formats, [A, B, D])


class TwoFacedTest(unittest.TestCase):

    def test_least_files(self):
        for one, other, content, what, file in (
            (A, B, (), ((3, (2,)),), (1, 2, 3, 1, 2, 0)), (A, B, ((2, ()),), (), None), (A, B, (), (), (1, 2, 0)),
            (B, A, ((3, (2,)),), (), (1, 2, 3, 1, 2, 0)), (A, C, (), (), None), (A, D, (), (), (1, 2, 0)),
            (A, D, ((2, (1,)),), ((2, (1,)),), (1, 2, 2, 1, 1, 0)), (A, D, ((2, (1,)),), (), None), (A, D, ((2, (1,)),), ((2, (2,)),), None),
            (A, B, (), ((3, ()), (3, ())), (1, 2, 3, 0, 3, 0, 0)), (A, B, (), ((1, (0,)),), None),
            (A, B, (), ((1, (3,)),), (1, 2, 1, 1, 3, 3, 0, 0)), (E, E, ((0, ()),), ((0, ()),), (0, 0)), (E, E, ((0, ()),), ((0, (0,)),), None),
        ):
            self.assertEqual(two_faced(one, other, content, what), file, (one, other, content, what))

    def test_contents_that_no_file_has_in_common(self):
        # Each of both contents is that of some common file, but of no file at once.
        self.assertIsNotNone(two_faced(A, B, (), ((3, ()),)))
        self.assertIsNone(two_faced(A, B, (), ((3, ()),) * 2 + ((1, ()),)))
        self.assertIsNone(two_faced(D, B, ((2, ()),), ((3, ()),)))

    def test_the_least_one_with_what_is_passed_over(self):
        # The content of the other one lies in a body that the one passes over.
        one = (2, (), "one", 1, ((0, "skip"), (1, "end")), "refuse")
        other = (2, (), "one", 0, ((0, "keep"), (1, "stop")), "refuse")
        self.assertEqual(two_faced(one, other, (), ((0, ()),) * 2), (0, 0, 0, 0, 1))

    def test_by_trying(self):
        seen = {"none": 0, "short": 0, "long": 0}
        for base, longest in SMALL:
            for one, other in itertools.islice(pairs_of_formats(base, 14, 55), 0, None, 4):
                mine, theirs = contents(one, longest), contents(other, longest)
                for content, what in some_contents(mine, theirs):
                    files = [file for file in mine if mine[file] == content and theirs.get(file) == what]
                    found = two_faced(one, other, content, what)
                    seen["short" if files else "none" if found is None else "long"] += 1
                    if files:
                        self.assertEqual(found, files[0], (one, other, content, what))
                    elif found is not None:
                        self.assertGreater(len(found), longest)
                        self.assertEqual((told(one, found), told(other, found)), (content, what))
        self.assertGreater(min(seen.values()), 20)

    def test_wrong_contents(self):
        for wrong in WRONG_CONTENTS:
            with self.assertRaises(InvalidContent):
                two_faced(A, A, wrong, ())
            with self.assertRaises(InvalidContent):
                two_faced(A, A, (), wrong)
            with self.assertRaises(InvalidContent):
                two_faced(A, E, wrong, ())
        # Contents of the other format each.
        for content, what in ((((3, ()),), ()), ((), ((2, ()),)), (((3, ()),), ((2, ()),))):
            with self.assertRaises(InvalidContent):
                two_faced(A, B, content, what)
        with self.assertRaises(OtherBase):
            two_faced(A, GREAT, ((2, ()),), ((2, (7,) * 1700),))


def some_contents(mine, theirs):
    """Some pairs of contents of two formats, of the same file and of two files."""
    for file in list(mine)[:12]:
        if file in theirs:
            yield mine[file], theirs[file]
    left = list(dict.fromkeys(mine.values()))[:4]
    right = list(dict.fromkeys(theirs.values()))[:4]
    for content, what in itertools.product(left, right):
        if max(len(content), len(what)) <= 3:
            yield content, what


class RelayedTest(unittest.TestCase):

    def test_contents(self):
        for one, other, content in (
            (A, B, ()), (D, A, None), (A, A, None), (A, D, ()), (E, E, None), (A, C, ()), (C, F, ()),
            # Written files have no chunk that is passed over, 0 for each free mark, and nothing behind an end.
            ((2, (None,), "one", 1, ((0, "end"), (1, "keep")), "skip"), (2, (0,), "one", 1, ((0, "stop"), (1, "keep")), "refuse"), None),
            ((2, (None,), "one", 1, ((0, "end"), (1, "keep")), "skip"), (2, (0,), "one", 0, ((0, "stop"), (1, "keep")), "refuse"),
             ((1, (0,)),)),
            ((3, (), "one", 1, ((0, "keep"), (1, "check")), "skip"), (3, (), "one", 1, ((0, "keep"),), "refuse"), ((1, ()),)),
            # Of several ends the least one is written.
            ((3, (), "one", 1, ((0, "keep"), (1, "stop"), (2, "end")), "skip"), (3, (), "one", 1, ((0, "keep"), (1, "stop")), "refuse"), None),
            ((3, (), "one", 1, ((0, "keep"), (1, "stop"), (2, "end")), "skip"), (3, (), "one", 1, ((0, "keep"), (2, "stop")), "refuse"), ()),
            # Told otherwise.
            ((3, (), "one", 1, ((0, "keep"),), "refuse"), (3, (), "one", 1, ((0, "skip"),), "refuse"), ((0, ()),)),
        ):
            self.assertEqual(relayed(one, other), content, (one, other))

    def test_by_trying_all_contents(self):
        seen = {"none": 0, "short": 0, "long": 0}
        for base, longest in ((2, 8), (3, 6)):
            for one, other in pairs_of_formats(base, 14, 56):
                written = sorted([write(one, content) for content in small_contents(one, longest)], key=order)
                bad = [file for file in written if told(other, file) != told(one, file)]
                found = relayed(one, other)
                seen["short" if bad else "none" if found is None else "long"] += 1
                if bad:
                    self.assertEqual(found, told(one, bad[0]), (one, other))
                elif found is not None:
                    self.assertGreater(len(write(one, found)), longest, (one, other))
                    self.assertNotEqual(told(other, write(one, found)), found, (one, other))
        self.assertGreater(seen["none"], 50)
        self.assertGreater(seen["short"], 50)


def small_contents(form, longest):
    """All contents of a format whose written files have at most so many signs."""
    chunks = [(tag, body) for tag in range(form[0]) for length in range(longest)
              for body in itertools.product(range(form[0]), repeat=length) if is_content(form, ((tag, body),))]
    found = [()] if len(write(form, ())) <= longest else []
    at = 0
    while at < len(found):
        for chunk in chunks:
            if len(write(form, found[at] + (chunk,))) <= longest:
                found.append(found[at] + (chunk,))
        at += 1
    return found


class ErrorsTest(unittest.TestCase):

    def test_wrong_formats(self):
        for form in WRONG_FORMATS:
            for function, rest in ((unlike, ()), (lost, ()), (relayed, ()), (two_faced, ((), ())), (two_faced, (None, None))):
                for one, other in ((form, A), (A, form), (form, form), (form, E)):
                    with self.assertRaises(InvalidFormat):
                        function(one, other, *rest)

    def test_other_bases(self):
        for one, other in ((A, E), (E, A), (A, GREAT), (GREAT, A)):
            for function, rest in ((unlike, ()), (lost, ()), (relayed, ()), (two_faced, ((), ()))):
                with self.assertRaises(OtherBase):
                    function(one, other, *rest)


if __name__ == "__main__":
    unittest.main()
