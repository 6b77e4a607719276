"""Tables that show that there is no common file: point [11]."""

import random
import unittest

from bothreaders.commons import common, is_table, table
from bothreaders.errors import HasCommon, InvalidFormat, OtherBase
from bothreaders.formats import stands
from tests.reference import A, B, C, D, E, ODD_VALUES, WRONG_FORMATS, Sulking, all_files, outcome, scan, some_formats

# Two formats without a common file whose table has several pairs.
ONE = (2, (0,), "high", 1, ((0, "stop"), (1, "check")), "refuse")
OTHER = (2, (0,), "low", 0, ((1, "keep"),), "skip")


def pairs_by_trying(one, other, longest):
    """All pairs of stands behind beginnings of at most so many signs."""
    found = set()
    for file in all_files(one[0], longest):
        pair = (scan(one, file).stand, scan(other, file).stand)
        if None not in pair:
            found.add(pair)
    return found


def is_table_by_trying(one, other, value):
    """Whether a list of pairs of stands is a table: the stand behind a sign by a file that comes to a stand."""
    files = {form: {scan(form, file).stand: file for file in reversed(list(all_files(form[0], 7)))} for form in (one, other)}
    if (scan(one, ()).stand, scan(other, ()).stand) not in value:
        return False
    for left, right in value:
        mine, theirs = files[one][left], files[other][right]
        if outcome(one, mine) is None and outcome(other, theirs) is None:
            return False
        for sign in range(one[0]):
            pair = (scan(one, mine + (sign,)).stand, scan(other, theirs + (sign,)).stand)
            if None not in pair and pair not in value:
                return False
    return True


class TableTest(unittest.TestCase):

    def test_tables(self):
        tag, over = ("tag",), ("over",)
        for one, other, pairs in (
            (A, C, [(("head", 0), ("head", 0))]),
            (C, (4, (2, 2), "one", 0, (), "refuse"), [(("head", 0), ("head", 0)), (tag, ("head", 1))]),
            ((2, (), "one", 0, ((0, "stop"),), "refuse"), (2, (0, None), "one", 0, (), "refuse"),
             [(over, ("head", 1)), (tag, ("head", 0))]),
            (ONE, OTHER, [
                (("head", 0), ("head", 0)), (("length", "check"), ("length", "keep")), (over, ("length", "skip")),
                (over, ("second", "skip", 0)), (("second", "check", 0), ("second", "keep", 0)), (("sum", 0), tag),
                (tag, ("length", "skip")), (tag, tag),
            ]),
        ):
            with self.subTest(one=one, other=other):
                self.assertEqual(table(one, other), pairs)
                self.assertEqual(table(other, one), sorted((right, left) for left, right in pairs))
                self.assertEqual(sorted(pairs_by_trying(one, other, 9 if one[0] == 2 else 5)), pairs)

    def test_the_fewest_pairs_by_trying(self):
        many = 0
        for base, longest in ((2, 12), (3, 7)):
            some = some_formats(base, 30, 31)
            for one in some:
                for other in some[:10]:
                    if common(one, other) is None and len(table(one, other)) < 12:
                        found = pairs_by_trying(one, other, longest)
                        self.assertEqual(table(one, other), sorted(found), (one, other))
                        many += 1
        self.assertGreater(many, 60)

    def test_a_common_file(self):
        for one, other in ((A, B), (B, A), (A, D), (E, E), (D, D)):
            with self.assertRaises(HasCommon) as caught:
                table(one, other)
            self.assertEqual(caught.exception.file, common(one, other))

    def test_each_list_is_a_new_one(self):
        first = table(ONE, OTHER)
        kept = list(first)
        self.assertIsNot(table(ONE, OTHER), first)
        first.clear()
        self.assertEqual(table(ONE, OTHER), kept)


class IsTableTest(unittest.TestCase):

    def test_tables_are_tables(self):
        many = 0
        for base in (2, 3, 4):
            some = some_formats(base, 20, 32)
            for one in some:
                for other in some:
                    if common(one, other) is None:
                        self.assertIs(is_table(one, other, table(one, other)), True)
                        many += 1
                    else:
                        pairs = [(left, right) for left in stands(one)[:6] for right in stands(other)[:6]]
                        self.assertIs(is_table(one, other, pairs), False)
        self.assertGreater(many, 300)

    def test_other_orders_and_pairs_twice(self):
        pairs = table(ONE, OTHER)
        self.assertIs(is_table(ONE, OTHER, pairs[::-1]), True)
        self.assertIs(is_table(ONE, OTHER, pairs + pairs), True)
        self.assertIs(is_table(ONE, OTHER, [pairs[3]] + pairs), True)

    def test_a_pair_left_out(self):
        for one, other in ((ONE, OTHER), (OTHER, ONE), (A, C)):
            pairs = table(one, other)
            for k in range(len(pairs)):
                self.assertIs(is_table(one, other, pairs[:k] + pairs[k + 1:]), False)
        self.assertIs(is_table(ONE, OTHER, []), False)

    def test_the_first_pair_has_to_be_found(self):
        # Closed, but it does not hold the first stands.
        one, other = (4, (1, 2), "one", 0, (), "refuse"), (4, (1, 3), "one", 0, (), "refuse")
        first, second = (("head", 0), ("head", 0)), (("head", 1), ("head", 1))
        self.assertIs(is_table(one, other, [first, second]), True)
        self.assertIs(is_table(one, other, [second]), False)
        self.assertIs(is_table(one, other, [first]), False)

    def test_more_pairs_than_needed(self):
        one, other = (4, (1, 2), "one", 0, (), "refuse"), (4, (1, 3), "one", 0, (), "refuse")
        needed = [(("head", 0), ("head", 0)), (("head", 1), ("head", 1))]
        for more, expected in (
            # No sign is refused by neither at these, or the pair behind it is there.
            ((("tag",), ("head", 0)), True), ((("head", 0), ("tag",)), True), ((("head", 1), ("head", 0)), True),
            # Both may end here.
            ((("tag",), ("tag",)), False),
        ):
            self.assertIs(is_table(one, other, needed + [more]), expected)
            self.assertIs(is_table(one, other, [more] + needed), expected)
        # Behind the sign 1 comes a pair that is not there.
        longer = (4, (3, 1), "one", 0, (), "refuse")
        self.assertIs(is_table(one, longer, [(("head", 0), ("head", 0))]), True)
        self.assertIs(is_table(one, longer, [(("head", 0), ("head", 0)), (("head", 0), ("head", 1))]), False)
        self.assertIs(is_table(one, longer, [(("head", 0), ("head", 0)), (("head", 0), ("head", 1)), (("head", 1), ("tag",))]), True)

    def test_some_lists_by_trying(self):
        chance = random.Random(33)
        found = {True: 0, False: 0}
        for one in some_formats(2, 12, 34):
            for other in some_formats(2, 12, 35):
                if max(len(stands(one)), len(stands(other))) < 8:
                    needed = table(one, other) if common(one, other) is None else []
                    every = [(left, right) for left in stands(one) for right in stands(other)]
                    for _ in range(6):
                        value = needed + chance.sample(every, chance.randrange(3))
                        expected = is_table_by_trying(one, other, value)
                        found[expected] += 1
                        self.assertIs(is_table(one, other, value), expected, (one, other, value))
        self.assertGreater(min(found.values()), 40)

    def test_no_list(self):
        pairs = table(ONE, OTHER)
        for value in ODD_VALUES + (tuple(pairs), dict(pairs), set(pairs), pairs[0], Sulking()):
            with self.subTest(value=repr(value)[:40]):
                self.assertIs(is_table(ONE, OTHER, value), False)

    def test_items_that_are_no_pairs(self):
        pairs = table(ONE, OTHER)
        for wrong in ODD_VALUES + (
            (), pairs[0][:1], pairs[0] + (("tag",),), list(pairs[0]), pairs[:1], (pairs[0],), pairs[0][0], "tt", Sulking(),
            (Sulking(), Sulking()), (("tag",), Sulking()), ((Sulking(),), ("tag",)), (("tag",), ("tag", [])),
        ):
            with self.subTest(wrong=repr(wrong)[:40]):
                self.assertIs(is_table(ONE, OTHER, pairs + [wrong]), False)
                self.assertIs(is_table(ONE, OTHER, [wrong] + pairs), False)

    def test_parts_that_are_no_stands(self):
        pairs = table(ONE, OTHER)
        # ("sum", 1) is a stand of the one alone, ("length", "skip") of the other one alone.
        for left, right in (
            (("length", "skip"), ("tag",)), (("tag",), ("sum", 1)), (("tag",), ("over",)), (("tag",), ("room",)),
            (("head", 1), ("tag",)), (("tag",), ("head", 1)), (("body", "check", 2, 0), ("tag",)), (("tag",), ("tag", 0)),
            (("sum", 2), ("tag",)), ((), ("tag",)), (("tag",), None), (None, ("tag",)), ("tag", ("tag",)), (["tag"], ("tag",)),
            (("body", "check", 1, 1), ("tag",)), (("nothing",), ("tag",)), ((0,), ("tag",)), ((b"tag",), ("tag",)),
        ):
            with self.subTest(left=left, right=right):
                self.assertIs(is_table(ONE, OTHER, pairs + [(left, right)]), False)

    def test_true_and_false_are_no_numbers(self):
        pairs = table(ONE, OTHER)
        for wrong, right in ((False, 0), (0.0, 0), (0j, 0)):
            for k, (left, behind) in enumerate(pairs):
                for changed in ((replaced(left, right, wrong), behind), (left, replaced(behind, right, wrong))):
                    if repr(changed) != repr((left, behind)):
                        self.assertIs(is_table(ONE, OTHER, pairs[:k] + [changed] + pairs[k + 1:]), False)
                        self.assertIs(is_table(ONE, OTHER, pairs + [changed]), False)
        first = (("head", 0), ("head", 0))
        self.assertIs(is_table(A, C, [first]), True)
        for wrong in ((("head", False), ("head", 0)), (("head", 0), ("head", False)), (("head", 0.0), ("head", 0))):
            self.assertIs(is_table(A, C, [wrong]), False)
            self.assertIs(is_table(A, C, [first, wrong]), False)

    def test_pairs_of_stands_in_the_other_order(self):
        pairs = table(ONE, OTHER)
        self.assertIs(is_table(OTHER, ONE, pairs), False)
        self.assertIs(is_table(OTHER, ONE, [(right, left) for left, right in pairs]), True)

    def test_errors(self):
        for form in WRONG_FORMATS:
            for value in ([], None):
                with self.assertRaises(InvalidFormat):
                    is_table(form, A, value)
                with self.assertRaises(InvalidFormat):
                    is_table(A, form, value)
            with self.assertRaises(InvalidFormat):
                table(form, A)
            with self.assertRaises(InvalidFormat):
                table(A, form)
        for value in ([], None, [(("head", 0), ("tag",))]):
            with self.assertRaises(OtherBase):
                is_table(A, E, value)

    def test_arguments_stay_as_they_were(self):
        pairs = table(ONE, OTHER)
        kept = list(pairs)
        is_table(ONE, OTHER, pairs)
        self.assertEqual(pairs, kept)


def replaced(stand, old, new):
    return tuple(new if part.__class__ is int and part == old else part for part in stand)


if __name__ == "__main__":
    unittest.main()
