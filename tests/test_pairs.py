"""Pairs of formats: points [22] and [23]."""

import itertools
import unittest

from bothreaders.commons import common, completion, table
from bothreaders.errors import (
    FileError, HasCommon, InvalidFile, InvalidFormat, InvalidMark, InvalidNumber, OtherBase, Refused,
)
from bothreaders.faces import lost, unlike
from bothreaders.objects import Pair, Reader
from bothreaders.steps import ends_well, first_stand, next_stand
from bothreaders.washers import stubborn
from bothreaders.washing import steady, washed
from tests.reference import (
    A, B, C, D, E, F, ODD_VALUES, WRONG_FILES, WRONG_FORMATS, Sulking, all_files, contents, outcome, some_formats, told, varied_formats,
)

GREAT = (256, (255,) * 20, "high", 65535, tuple((k, "check") for k in range(20)), "skip")
SMALL = ((2, 8), (3, 5))


def result(function, *arguments):
    """What a function returns, or its error with what this one tells."""
    try:
        return function(*arguments)
    except FileError as error:
        return error.__class__, vars(error)


def some_pairs(base, many, seed):
    some = some_formats(base, many, seed)
    for k, one in enumerate(some):
        for other in some[:many // 3] + list(varied_formats(one))[k % 9::9]:
            yield one, other


def parting_file(one, other):
    """A file that just one of two pairs reads, None if there is none: all pairs of stands are gone through as they are."""
    forms = (one.one, one.other, other.one, other.other)
    first = tuple(first_stand(form) for form in forms)
    found, waiting = {first: ()}, [first]
    while waiting:
        stands = waiting.pop(0)
        good = [stand is not None and ends_well(form, stand) for form, stand in zip(forms, stands)]
        if (good[0] and good[1]) != (good[2] and good[3]):
            return found[stands]
        for sign in range(max(form[0] for form in forms)):
            behind = tuple(next_stand(form, stand, sign) if stand is not None and sign < form[0] else None
                           for form, stand in zip(forms, stands))
            if behind not in found:
                found[behind] = found[stands] + (sign,)
                waiting.append(behind)
    return None


class PairTest(unittest.TestCase):

    def test_formats(self):
        p = Pair(A, B)
        self.assertEqual((p.one, p.other), (A, B))
        self.assertEqual((Pair(other=A, one=B).one, Pair(other=A, one=B).other), (B, A))
        with self.assertRaises(AttributeError):
            p.one = B
        with self.assertRaises(AttributeError):
            p.other = A

    def test_wrong_formats(self):
        for form in WRONG_FORMATS:
            for one, other in ((form, A), (A, form), (form, form), (E, form), (form, E)):
                with self.assertRaises(InvalidFormat):
                    Pair(one, other)

    def test_other_bases(self):
        for one, other in ((A, E), (E, A), (A, GREAT), (GREAT, A)):
            with self.assertRaises(OtherBase):
                Pair(one, other)

    def test_truth(self):
        for one, other, expected in ((A, B, True), (A, C, False), (B, C, False), (C, C, True), (E, E, True), (A, F, False), (F, F, True)):
            self.assertIs(bool(Pair(one, other)), expected)
        seen = {True: 0, False: 0}
        for one, other in some_pairs(3, 18, 110):
            found = bool(Pair(one, other))
            seen[found] += 1
            self.assertIs(found, common(one, other) is not None)
        self.assertGreater(min(seen.values()), 40)

    def test_files_in_a_pair(self):
        for base, longest in SMALL:
            for one, other in some_pairs(base, 12, 111):
                p = Pair(one, other)
                mine, theirs = contents(one, longest), contents(other, longest)
                for file in all_files(base, longest):
                    self.assertIs(file in p, file in mine and file in theirs)

    def test_values_that_are_no_files(self):
        p = Pair(A, A)
        self.assertIs((1, 2, 0) in p, True)
        for value in ODD_VALUES + WRONG_FILES + ((1, 2, 4), (True, 2, 0), (1.0, 2, 0), (1, 2, False), [1, 2, 0], "120", A, Sulking(), (Sulking(),)):
            self.assertIs(value in p, False)
        for value in ([1, 2, 0], None, 5, (), (0, 0)):
            self.assertIs(value not in Pair(A, A), True)
        self.assertIs(() in Pair(E, E), True)

    def test_contents(self):
        self.assertEqual(Pair(A, B)[(1, 2, 3, 0, 0)], ((), ((3, ()),)))
        self.assertEqual(Pair(E, E)[()], ((), ()))
        for base, longest in SMALL:
            for one, other in some_pairs(base, 9, 112):
                p = Pair(one, other)
                for file in all_files(base, longest - 1):
                    self.assert_contents(p, file)

    def assert_contents(self, p, file):
        found = outcome(p.one, file) or outcome(p.other, file)
        if found is None:
            self.assertEqual(p[file], (told(p.one, file), told(p.other, file)))
        else:
            with self.assertRaises(Refused) as caught:
                p[file]
            self.assertEqual((caught.exception.index, caught.exception.word), found)

    def test_the_one_format_refuses_first(self):
        # The other one refuses the sign 0, and the one all that is too short.
        for p, found in ((Pair(A, C), (1, "short")), (Pair(C, A), (0, "head"))):
            with self.assertRaises(Refused) as caught:
                p[(1,)]
            self.assertEqual((caught.exception.index, caught.exception.word), found)

    def test_wrong_files(self):
        p = Pair(A, B)
        for file in WRONG_FILES + (slice(1), (1, 2, 4), Ellipsis):
            for call in (lambda: p[file], lambda: p(file), lambda: p.washed(file), lambda: p.steady(file)):
                with self.assertRaises(InvalidFile):
                    call()

    def test_the_methods_are_the_functions(self):
        beginnings = [(), (0,), (1,), (1, 0), (0, 1, 1)]
        for base in (2, 3):
            for one, other in some_pairs(base, 12, 113):
                p = Pair(one, other)
                for method, function in ((p.common, common), (p.unlike, unlike), (p.lost, lost), (p.stubborn, stubborn), (p.table, table)):
                    self.assertEqual(result(method), result(function, one, other), (one, other))
                for beginning in beginnings:
                    self.assertEqual(p(beginning), completion([one, other], beginning))
                for file in list(contents(one, 4))[:4] + beginnings:
                    self.assertEqual(result(p.washed, file), result(washed, one, other, file))
                    self.assertEqual(result(p.steady, file), result(steady, one, other, file))

    def test_results(self):
        p, q = Pair(A, B), Pair(A, C)
        self.assertEqual((p.common(), p.unlike(), p.lost(), p.stubborn()), ((1, 2, 0), (1, 2, 3, 0, 0), (1, 0, 0), None))
        self.assertEqual((q.common(), q.table(), q((1,)), q.stubborn()), (None, [(("head", 0), ("head", 0))], None, None))
        self.assertEqual((p((1,)), p(()), p((0,)), p((1, 2, 0))), ((2, 0), (1, 2, 0), None, ()))
        self.assertEqual((p.washed((1, 2, 0)), p.steady((1, 2, 0)), Pair(D, A).washed((1, 2, 0)), Pair(D, A).steady((1, 2, 0))),
                         ((1, 0, 0), False, None, True))
        with self.assertRaises(HasCommon) as caught:
            p.table()
        self.assertEqual(caught.exception.file, (1, 2, 0))

    def test_by_name(self):
        p = Pair(A, B)
        self.assertEqual(p(beginning=(1,)), (2, 0))
        self.assertEqual(p.washed(file=(1, 2, 0)), (1, 0, 0))
        self.assertIs(p.steady(file=(1, 2, 0)), False)

    def test_each_list_is_a_new_one(self):
        p = Pair(A, C)
        first = p.table()
        self.assertIsNot(p.table(), first)
        first.clear()
        self.assertEqual(p.table(), table(A, C))

    def test_a_pair_is_not_iterated_over(self):
        with self.assertRaises(TypeError):
            iter(Pair(A, B))


class OtherPairsTest(unittest.TestCase):

    def assert_formats(self, p, one, other):
        self.assertIs(p.__class__, Pair)
        self.assertEqual((p.one, p.other), (one, other))

    def test_the_other_way_round(self):
        p = Pair(A, B)
        self.assert_formats(~p, B, A)
        self.assert_formats(~~p, A, B)
        self.assert_formats(p, A, B)
        self.assertEqual((~p).lost(), lost(B, A))

    def test_a_mark_more(self):
        for p in (Pair(A, B), Pair(C, D), Pair(F, A)):
            for mark in (None, 0, 1, 2, 3):
                one, other = [form[:1] + (form[1] + (mark,),) + form[2:] for form in (p.one, p.other)]
                kept = (p.one, p.other)
                self.assert_formats(p + mark, one, other)
                self.assert_formats(p, *kept)
                self.assert_formats(p + mark - 1, *kept)

    def test_wrong_marks(self):
        for mark in (-1, 4, True, False, 1.0, "1", "*", (1,), [], {}, A, Pair(A, B), Sulking(), 10 ** 9):
            with self.assertRaises(InvalidMark):
                Pair(A, B) + mark
        with self.assertRaises(InvalidMark):
            Pair(E, E) + 2
        self.assert_formats(Pair(E, E) + 1, (2, (1,)) + E[2:], (2, (1,)) + E[2:])

    def test_some_marks_less(self):
        p = Pair(A, B)
        self.assert_formats(p - 0, A, B)
        self.assert_formats(p - 1, A[:1] + ((1,),) + A[2:], B[:1] + ((None,),) + B[2:])
        self.assert_formats(p - 2, A[:1] + ((),) + A[2:], B[:1] + ((),) + B[2:])
        # The heads have unlike numbers of marks.
        self.assert_formats(Pair(A, C) - 1, A[:1] + ((1,),) + A[2:], C[:1] + ((),) + C[2:])
        self.assert_formats(Pair(C, A) - 0, C, A)

    def test_wrong_numbers(self):
        for p, numbers in ((Pair(A, B), (3, 20)), (Pair(A, C), (2, 3)), (Pair(C, A), (2,)), (Pair(A, F), (1, 2)), (Pair(F, F), (1,))):
            for number in numbers + (-1, True, False, None, 1.0, "1", (), (1,), [0], p, Sulking(), -(10 ** 9), 10 ** 9):
                with self.assertRaises(InvalidNumber):
                    p - number
            self.assert_formats(p - 0, p.one, p.other)


class EqualPairsTest(unittest.TestCase):

    def assert_equal_pairs(self, left, right, expected):
        for one, other in itertools.product((left, ~left), (right, ~right)):
            self.assertIs(one == other, expected)
            self.assertIs(other == one, expected)
            self.assertIs(one != other, not expected)

    def test_pairs_without_common_files(self):
        none = [Pair(A, C), Pair(B, C), Pair(A, F), Pair((2, (0,), "one", 0, (), "skip"), (2, (1,), "one", 0, (), "skip"))]
        for left, right in itertools.product(none, repeat=2):
            self.assert_equal_pairs(left, right, True)
        for left, right in itertools.product(none, (Pair(A, A), Pair(E, E), Pair(C, C))):
            self.assert_equal_pairs(left, right, False)

    def test_unlike_bases(self):
        # The head has the sign 1 alone: this is also the one file of a greater base.
        one, great = (2, (1,), "one", 0, (), "refuse"), (200, (1,), "one", 9, (), "refuse")
        self.assert_equal_pairs(Pair(one, one), Pair(great, great), True)
        self.assert_equal_pairs(Pair(one, one), Pair(C, C), False)
        # All signs of the base 2, or more: the room is greater.
        room = (2, (), "one", 0, ((0, "end"),), "refuse")
        self.assert_equal_pairs(Pair(room, room), Pair((3,) + room[1:], (3,) + room[1:]), False)
        # Of the greater bases just the signs 0 and 1 are read, too.
        for base in (2, 3, 4):
            form = (base, (0, 1), "one", 0, (), "refuse")
            chunk = (base, (), "one", 0, ((0, "keep"),), "refuse")
            self.assert_equal_pairs(Pair(form, form), Pair((4,) + form[1:], (4,) + form[1:]), True)
            self.assert_equal_pairs(Pair(chunk, chunk), Pair((4,) + chunk[1:], (4,) + chunk[1:]), True)
            self.assert_equal_pairs(Pair(chunk, form), Pair(C, A), True)

    def test_the_same_files_of_unlike_formats(self):
        keep = (3, (), "one", 2, ((0, "keep"), (1, "stop")), "refuse")
        skip = (3, (), "one", 2, ((0, "skip"), (1, "stop")), "refuse")
        self.assert_equal_pairs(Pair(keep, keep), Pair(keep, skip), True)
        self.assert_equal_pairs(Pair(skip, keep), Pair(skip, skip), True)
        self.assert_equal_pairs(Pair(keep, keep), Pair(keep, keep[:3] + (1,) + keep[4:]), False)
        self.assert_equal_pairs(Pair(A, D), Pair(D, D), True)
        self.assert_equal_pairs(Pair(A, D), Pair(A, A), False)

    def test_other_values(self):
        p = Pair(A, B)
        for value in (None, 0, (), (A, B), [A, B], A, Reader(A), "", Sulking(), object(), Pair):
            self.assertIs(p == value, False)
            self.assertIs(p == p, True)

    def test_by_going_through_four_readers(self):
        seen = {True: 0, False: 0}
        for base, count in ((2, 8), (3, 6)):
            some = [Pair(one, other) for one, other in some_pairs(base, count, 114)]
            some += [Pair((base + 1,) + p.one[1:], (base + 1,) + p.other[1:]) for p in some[:4]]
            for left, right in itertools.combinations(some, 2):
                parted = parting_file(left, right)
                seen[parted is None] += 1
                self.assertIs(left == right, parted is None, (left.one, left.other, right.one, right.other, parted))
        self.assertGreater(min(seen.values()), 50)

    def test_by_trying(self):
        for base, longest in SMALL:
            some = [Pair(one, other) for one, other in some_pairs(base, 7, 115)]
            files = [{file for file in contents(p.one, longest) if file in p} for p in some]
            for k, j in itertools.combinations(range(len(some)), 2):
                if files[k] != files[j]:
                    self.assertFalse(some[k] == some[j])
                elif some[k] != some[j]:
                    self.assertGreater(len(parting_file(some[k], some[j])), longest)


if __name__ == "__main__":
    unittest.main()
