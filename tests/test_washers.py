"""Stubborn files and washing tables: points [18] and [19]."""

import itertools
import random
import unittest

from bothreaders.errors import HasStubborn, InvalidFormat, InvalidLength, OtherBase
from bothreaders.files import count_files
from bothreaders.formats import stands
from bothreaders.washers import count_stubborn, is_washing_table, stubborn, washing_table
from bothreaders.washing import washed
from tests.reference import (
    A, B, C, D, E, F, ODD_VALUES, WRONG_FORMATS, Sulking, all_files, contents, outcome, scan, some_formats, variations, varied_formats,
)

U = (3, (1, 2), "one", 1, ((0, "stop"),), "refuse")
V = (3, (1,), "one", 1, ((0, "end"),), "skip")
ROOM = (3, (), "one", 0, ((0, "end"),), "refuse")
GREAT = (256, (255,) * 20, "high", 65535, tuple((k, "check") for k in range(20)), "skip")
SMALL = ((2, 7), (3, 5))

TAG, OVER, IN_ROOM = ("tag",), ("over",), ("room",)


def pairs(base, many, seed):
    """Some pairs of formats: unlike ones, and some that are like each other but for one part."""
    some = some_formats(base, many, seed)
    for k, one in enumerate(some):
        for other in some[:many // 2] + list(varied_formats(one))[k % 7::7]:
            yield one, other


def stubborn_by_trying(one, other, longest):
    """All stubborn files up to a number of signs, in their order."""
    good = contents(other, longest)
    return [file for file in contents(one, longest) if all(varied in good for varied in variations(one, file))]


def beginnings(one, file):
    """All beginnings that differ from one where the reader does not look, its own stand behind it; None if it is refused."""
    found = scan(one, file)
    if found.refused is not None:
        return None, []
    return found.stand, itertools.product(*[[sign] if k in found.looked else range(one[0]) for k, sign in enumerate(file)])


def places_by_trying(one, other, longest):
    """All (stand, group) behind beginnings of which no variation is refused, up to a number of signs."""
    found = set()
    for file in all_files(one[0], longest):
        stand, varied = beginnings(one, file)
        if stand is not None:
            group = {scan(other, beginning).stand for beginning in varied}
            if None not in group:
                found.add((stand, tuple(sorted(group))))
    return found


class Definition:
    """What a washing table is, as the document says it: the stand behind a sign by a file that comes to a stand."""

    def __init__(self, one, other):
        self.one, self.other = one, other
        self.files = {form: {scan(form, file).stand: file for file in reversed(list(all_files(form[0], 6)))} for form in (one, other)}

    def behind(self, form, stand, sign):
        return scan(form, self.files[form][stand] + (sign,)).stand

    def is_read(self, form, stand):
        return outcome(form, self.files[form][stand]) is None

    def is_looked_at(self, stand, sign):
        file = self.files[self.one][stand]
        return len(file) in scan(self.one, file + (sign,)).looked

    def is_table(self, value):
        if (scan(self.one, ()).stand, (scan(self.other, ()).stand,)) not in value:
            return False
        return all(self.is_row(stand, group, value) for stand, group in value)

    def is_row(self, stand, group, value):
        if self.is_read(self.one, stand) and all(self.is_read(self.other, name) for name in group):
            return False
        for sign in range(self.one[0]):
            behind = self.behind(self.one, stand, sign)
            if behind is not None:
                signs = [sign] if self.is_looked_at(stand, sign) else range(self.one[0])
                reached = {self.behind(self.other, name, each) for name in group for each in signs}
                if None not in reached and (behind, tuple(sorted(reached))) not in value:
                    return False
        return True


class StubbornTest(unittest.TestCase):

    def test_least_files(self):
        for one, other, file in (
            (U, V, None), (V, U, None), (V, V, (1, 0)), (U, U, (1, 2, 0)), (A, B, None), (A, C, None), (C, C, (2,)), (E, E, ()), (F, F, ()),
            (D, A, (1, 2, 0)), (A, D, None), (A, A, (1, 0, 0)), (B, B, (0, 2, 0)), (D, D, (1, 2, 0)),
            # At a mark None each sign is read, at a body that is passed over each one, too.
            ((2, (None,), "one", 0, (), "refuse"), (2, (), "one", 0, ((0, "stop"), (1, "stop")), "refuse"), (0,)),
            ((2, (None,), "one", 0, (), "refuse"), (2, (), "one", 0, ((1, "stop"),), "refuse"), None),
            ((3, (), "one", 1, ((1, "stop"),), "skip"), (3, (0, 1, None), "one", 1, ((1, "end"),), "refuse"), (0, 1, 0, 1)),
            # Of the greatest file the reader looks at one sign alone; the other one reads files of two signs alone.
            (ROOM, (3, (0, None), "one", 0, (), "refuse"), (0, 0)), (ROOM, ROOM, (0,)), (ROOM, U, None),
            # Variations come to unlike stands, and all of them may end there: at a tag, or behind an end.
            ((3, (None,), "one", 0, (), "refuse"), (3, (), "one", 0, ((0, "stop"), (1, "end"), (2, "stop")), "refuse"), (0,)),
            ((3, (None,), "one", 0, (), "refuse"), (3, (), "one", 0, ((0, "stop"), (1, "end"), (2, "keep")), "refuse"), None),
        ):
            self.assertEqual(stubborn(one, other), file, (one, other))

    def test_some_variation_is_washed_or_none(self):
        for one, other in pairs(3, 16, 80):
            file = stubborn(one, other)
            if file is not None:
                self.assertIsNone(outcome(one, file))
                self.assertIsNone(washed(one, other, file), (one, other, file))

    def test_by_trying(self):
        seen = {True: 0, False: 0}
        for base, longest in SMALL:
            for one, other in pairs(base, 20, 81):
                files = stubborn_by_trying(one, other, longest)
                found = stubborn(one, other)
                seen[found is None] += 1
                if files:
                    self.assertEqual(found, files[0], (one, other))
                elif found is not None:
                    self.assertGreater(len(found), longest)
                    self.assertIsNone(washed(one, other, found))
                lengths = [len(file) for file in files]
                for length in range(longest + 1):
                    self.assertEqual(count_stubborn(one, other, length), lengths.count(length), (one, other, length))
        self.assertGreater(min(seen.values()), 100)

    def test_the_format_all_of_whose_signs_are_looked_at(self):
        # Then just the common files are stubborn, and against itself each file is.
        for length in range(8):
            self.assertEqual(count_stubborn(D, D, length), count_files(D, length))
            self.assertEqual(count_stubborn(A, A, length), count_files(A, length))
        self.assertEqual([count_stubborn(D, A, length) for length in range(8)], [count_files(D, length) for length in range(8)])

    def test_counts(self):
        self.assertEqual([count_stubborn(V, V, length) for length in range(5)], [0, 0, 1, 3, 11])
        self.assertEqual([count_stubborn(U, V, length) for length in range(5)], [0] * 5)
        self.assertEqual([count_stubborn(ROOM, (3, (0, None), "one", 0, (), "refuse"), length) for length in range(5)], [0, 0, 3, 0, 0])

    def test_wrong_lengths(self):
        for length in (-1, True, False, None, 1.0, "1", (1,), [1]):
            with self.assertRaises(InvalidLength):
                count_stubborn(U, V, length)
            with self.assertRaises(InvalidLength):
                count_stubborn(U, E, length)
        with self.assertRaises(OtherBase):
            count_stubborn(U, E, 1)

    def test_wrong_formats_and_other_bases(self):
        for form in WRONG_FORMATS:
            for one, other in ((form, A), (A, form), (E, form), (form, form)):
                for function in (stubborn, washing_table):
                    with self.assertRaises(InvalidFormat):
                        function(one, other)
                with self.assertRaises(InvalidFormat):
                    count_stubborn(one, other, None)
                with self.assertRaises(InvalidFormat):
                    is_washing_table(one, other, None)
        for one, other in ((A, E), (E, A), (A, GREAT), (GREAT, A)):
            for function in (stubborn, washing_table):
                with self.assertRaises(OtherBase):
                    function(one, other)
            for value in ([], None, washing_table(U, V)):
                with self.assertRaises(OtherBase):
                    is_washing_table(one, other, value)


class WashingTableTest(unittest.TestCase):

    def test_tables(self):
        for one, other, rows in (
            (U, V, [(("head", 0), (("head", 0),)), (("head", 1), (TAG,)), (OVER, (TAG,)), (TAG, (("length", "skip"),))]),
            (A, C, [(("head", 0), (("head", 0),))]),
            # The first sign of the one is free, and the other one refuses some.
            ((2, (None, 1), "one", 0, (), "refuse"), (2, (0,), "one", 0, (), "skip"), [(("head", 0), (("head", 0),))]),
            # Behind it the group has two stands; then one of them refuses each sign.
            ((2, (None, 1), "one", 0, (), "refuse"), (2, (), "one", 0, ((0, "stop"), (1, "keep")), "refuse"),
             [(("head", 0), (TAG,)), (("head", 1), (("length", "keep"), OVER))]),
            (ROOM, (3, (0,), "one", 0, ((0, "stop"), (1, "stop")), "skip"),
             [(IN_ROOM, (TAG,)), (IN_ROOM, (("length", "skip"), OVER)), (TAG, (("head", 0),))]),
        ):
            self.assertEqual(washing_table(one, other), sorted(rows), (one, other))
            self.assertIs(is_washing_table(one, other, rows), True)
            self.assertEqual(sorted(places_by_trying(one, other, 5)), sorted(rows))

    def test_the_fewest_by_trying(self):
        many = 0
        for base, longest in ((2, 9), (3, 6)):
            for one, other in pairs(base, 20, 82):
                if stubborn(one, other) is None and len(washing_table(one, other)) < 9:
                    self.assertEqual(washing_table(one, other), sorted(places_by_trying(one, other, longest)), (one, other))
                    many += 1
        self.assertGreater(many, 100)

    def test_a_stubborn_file(self):
        for one, other in ((V, V), (U, U), (D, A), (E, E), (ROOM, ROOM)):
            with self.assertRaises(HasStubborn) as caught:
                washing_table(one, other)
            self.assertEqual(caught.exception.file, stubborn(one, other))

    def test_each_list_is_a_new_one(self):
        first = washing_table(U, V)
        kept = list(first)
        self.assertIsNot(washing_table(U, V), first)
        first.clear()
        self.assertEqual(washing_table(U, V), kept)


class IsWashingTableTest(unittest.TestCase):

    def test_tables_are_tables(self):
        seen = {True: 0, False: 0}
        for base in (2, 3):
            for one, other in pairs(base, 16, 83):
                good = stubborn(one, other) is None
                seen[good] += 1
                if good:
                    rows = washing_table(one, other)
                    self.assertIs(is_washing_table(one, other, rows), True)
                    self.assertIs(is_washing_table(one, other, rows[::-1]), True)
                    self.assertIs(is_washing_table(one, other, rows + rows[:2]), True)
                    for k in range(len(rows)):
                        self.assertIs(is_washing_table(one, other, rows[:k] + rows[k + 1:]), False)
                else:
                    every = [(stand, (name,)) for stand in stands(one) for name in stands(other)]
                    self.assertIs(is_washing_table(one, other, every), False)
        self.assertGreater(min(seen.values()), 50)

    def test_more_than_the_fewest_by_trying(self):
        chance = random.Random(84)
        found = {True: 0, False: 0}
        for base, many in ((2, 30), (3, 12)):
            for one, other in pairs(base, many, 85):
                if max(len(stands(one)), len(stands(other))) < 9:
                    rows = washing_table(one, other) if stubborn(one, other) is None else []
                    definition = Definition(one, other)
                    for _ in range(4):
                        value = rows + some_rows(one, other, chance)
                        expected = definition.is_table(value)
                        found[expected] += 1
                        self.assertIs(is_washing_table(one, other, value), expected, (one, other, value))
        self.assertGreater(min(found.values()), 100)

    def test_a_group_that_is_not_found(self):
        one, other = (2, (None, 1), "one", 0, (), "refuse"), (2, (), "one", 0, ((0, "stop"), (1, "keep")), "refuse")
        rows = washing_table(one, other)
        # A part of the group is another group.
        for group in ((OVER,), (("length", "keep"),)):
            self.assertIs(is_washing_table(one, other, [rows[0], (("head", 1), group)]), False)
        self.assertIs(is_washing_table(one, other, rows), True)

    def test_no_list(self):
        rows = washing_table(U, V)
        for value in ODD_VALUES + (tuple(rows), dict(rows), set(rows), rows[0], Sulking()):
            with self.subTest(value=repr(value)[:40]):
                self.assertIs(is_washing_table(U, V, value), False)

    def test_items_of_another_form(self):
        rows = washing_table(U, V)
        stand, group = rows[0]
        for wrong in ODD_VALUES + (
            (), (stand,), rows[0] + (TAG,), list(rows[0]), [rows[0]], (rows[0],), (stand, list(group)), (stand, group[0]), (stand, ()),
            (stand, (group,)), (stand, group * 2), (group, stand), (stand, None), (None, group), (stand, {group[0]: 0}), (list(stand), group),
            (Sulking(), group), (stand, Sulking()), (stand, (Sulking(),)), ((Sulking(),), group), (stand, (("tag", []),)), "ab", Sulking(),
            (stand, (None,)), (stand, ("tag",)), (stand, (TAG, None)),
        ):
            with self.subTest(wrong=repr(wrong)[:40]):
                self.assertIs(is_washing_table(U, V, rows + [wrong]), False)
                self.assertIs(is_washing_table(U, V, [wrong] + rows), False)

    def test_groups_that_do_not_ascend(self):
        # Of these two, no stand behind a sign is asked for: the reader of the one is over.
        rows = washing_table(U, V)
        for group, expected in (
            ((("length", "skip"), TAG), True), ((TAG, ("length", "skip")), False), ((TAG, TAG), False),
            ((("head", 0), ("length", "skip"), TAG), True), ((("head", 0), TAG, ("length", "skip")), False),
            ((("length", "skip"), TAG, TAG), False), ((TAG,), True), ((), False),
        ):
            self.assertIs(is_washing_table(U, V, rows + [(OVER, group)]), expected, group)

    def test_stands_of_the_other_format_alone(self):
        rows = washing_table(U, V)
        for wrong in (
            (IN_ROOM, (TAG,)), (("length", "skip"), (TAG,)), (OVER, (OVER,)), (OVER, (("head", 1),)), (("head", 2), (TAG,)), (OVER, (("sum", 0),)),
            (("nothing",), (TAG,)), (OVER, (("nothing",),)), ((), (TAG,)), (OVER, ((),)), (OVER, (("body", "skip", 2, 0),)),
            (OVER, (("body", "keep", 1, 0),)), (OVER, (("length", "skip"), ("length", "stop"), TAG)),
        ):
            with self.subTest(wrong=wrong):
                self.assertIs(is_washing_table(U, V, rows + [wrong]), False)
        self.assertIs(is_washing_table(V, U, rows), False)

    def test_true_and_false_are_no_numbers(self):
        first, second = (("head", 0), (("head", 0),)), (("head", 1), (TAG,))
        rows = washing_table(U, V)
        self.assertEqual((rows[0], rows[1]), (first, second))
        for k, wrong in ((0, (("head", False), (("head", 0),))), (0, (("head", 0), (("head", False),))), (0, (("head", 0.0), (("head", 0),))),
                         (1, (("head", True), (TAG,))), (0, (("head", 0), (("head", 0.0),)))):
            self.assertIs(is_washing_table(U, V, rows[:k] + [wrong] + rows[k + 1:]), False)
            self.assertIs(is_washing_table(U, V, rows + [wrong]), False)

    def test_arguments_stay_as_they_were(self):
        rows = washing_table(U, V)
        kept = list(rows)
        is_washing_table(U, V, rows)
        self.assertEqual(rows, kept)


def some_rows(one, other, chance):
    found = []
    for _ in range(chance.randrange(3)):
        names = stands(other)
        group = tuple(sorted(chance.sample(names, chance.choice([1, 1, 2, 3][:len(names)]))))
        found.append((chance.choice(stands(one)), group))
    return found


if __name__ == "__main__":
    unittest.main()
