"""Live readers: point [21]."""

import itertools
import random
import unittest

from bothreaders.errors import FileError, InvalidFormat, InvalidSign, NothingToUndo, Refused
from bothreaders.formats import stand_behind
from bothreaders.objects import Pair, Reader
from bothreaders.readers import read, refusal, write
from tests.reference import A, ALL_SKIP, B, C, D, E, F, WRONG_FORMATS, Sulking, contents, outcome, scan, some_formats

GREAT = (256, (255, None), "high", 65535, ((0, "stop"), (7, "keep"), (8, "check")), "skip")
WRONG_SIGNS = (-1, 4, 10 ** 9, True, False, None, 1.0, "1", "", (1,), [1], {}, b"1", object(), Sulking())


def seen(reader):
    """All that can be seen of a reader."""
    return reader.form, reader.signs, reader.stand, reader.told, len(reader)


def behind(form, signs):
    """All that has to be seen behind some signs, by the second reader."""
    found = scan(form, signs)
    return form, signs, found.stand, tuple(found.content), len(signs)


def taken(form, signs):
    reader = Reader(form)
    for sign in signs:
        reader(sign)
    return reader


class ReaderTest(unittest.TestCase):

    def test_the_beginning(self):
        for form in (A, B, C, D, E, F, ALL_SKIP, GREAT):
            reader = Reader(form)
            self.assertEqual(seen(reader), behind(form, ()))
            self.assertEqual([part.__class__ for part in seen(reader)], [tuple, tuple, tuple, tuple, int])
            self.assertIs(reader.form, form)

    def test_done_and_open(self):
        for form, signs, words in (
            (A, (1, 3, 2, 1, 3, 0), "open open open open open done"), (B, (1, 2, 0, 3, 3), "open open done done done"),
            (C, (2,), "done"), (E, (0, 1, 1, 0, 0), "open open done open done"), (F, (1, 2, 0, 3, 3, 2, 0, 0, 0), "open open open open open done open open done"),
        ):
            reader = Reader(form)
            self.assertEqual(" ".join(reader(sign) for sign in signs), words)

    def test_refused_signs(self):
        for form, signs, sign, word in (
            (A, (), 0, "head"), (A, (1, 2, 0), 0, "behind"), (B, (1, 2), 2, "tag"), (B, (1, 2, 1), 3, "length"), (B, (1, 2, 1, 1, 3), 0, "check"),
            (B, (1, 2, 1, 0), 1, "check"), (C, (2,), 2, "tag"), (E, (), 1, "tag"), (F, (1,), 3, "length"), (F, (1, 2), 1, "length"),
        ):
            reader = taken(form, signs)
            before = seen(reader)
            with self.assertRaises(Refused) as caught:
                reader(sign)
            self.assertEqual((caught.exception.index, caught.exception.word), (len(signs), word))
            self.assertEqual(refusal(form, signs + (sign,)), (len(signs), word))
            self.assertEqual(seen(reader), before)

    def test_against_the_functions_behind_the_same_signs(self):
        chance = random.Random(100)
        for base in (2, 3, 4, 6):
            for form in some_formats(base, 25, 101) + [A, B, D, F, ALL_SKIP]:
                reader, signs = Reader(form), ()
                for _ in range(60):
                    if signs and chance.random() < 0.25:
                        self.assertEqual(reader.undo(), signs[-1])
                        signs = signs[:-1]
                    else:
                        signs = self.next_sign(reader, signs, chance.randrange(form[0]))
                    self.assertEqual(seen(reader), behind(form, signs))
                    self.assertEqual(reader.stand, stand_behind(form, signs))

    def next_sign(self, reader, signs, sign):
        form = reader.form
        found = refusal(form, signs + (sign,))
        if found is None or found[1] == "short":
            self.assertEqual(reader(sign), "done" if found is None else "open")
            if found is None:
                self.assertEqual(reader.told, read(form, signs + (sign,)))
            return signs + (sign,)
        with self.assertRaises(Refused) as caught:
            reader(sign)
        self.assertEqual((caught.exception.index, caught.exception.word), found)
        return signs

    def test_all_files_of_small_formats(self):
        for form, longest in ((E, 6), ((2, (None,), "one", 1, ((0, "end"), (1, "check")), "skip"), 7)):
            for file in contents(form, longest):
                reader = Reader(form)
                words = [reader(sign) for sign in file]
                self.assertEqual(words, ["open" if outcome(form, file[:k + 1]) else "done" for k in range(len(file))])
                self.assertEqual(reader.told, contents(form, longest)[file])

    def test_parts_of_a_body(self):
        reader = Reader(A)
        told = []
        for sign in (1, 2, 2, 3, 1, 2, 3, 2):
            reader(sign)
            told.append(reader.told)
        self.assertEqual(told, [(), (), ((2, ()),), ((2, ()),), ((2, (1,)),), ((2, (1, 2)),), ((2, (1, 2, 3)),), ((2, (1, 2, 3)), (2, ()))])

    def test_undo(self):
        reader = taken(A, (1, 2, 2, 1, 3))
        self.assertEqual([reader.undo() for _ in range(3)], [3, 1, 2])
        self.assertEqual(seen(reader), behind(A, (1, 2)))
        self.assertEqual(reader(0), "done")
        self.assertEqual([reader.undo() for _ in range(3)], [0, 2, 1])
        for _ in range(2):
            with self.assertRaises(NothingToUndo):
                reader.undo()
            self.assertEqual(seen(reader), behind(A, ()))
        self.assertEqual(reader(1), "open")

    def test_wrong_signs(self):
        for signs in ((), (1, 2), (1, 2, 2, 1), (1, 2, 0)):
            reader = taken(A, signs)
            for sign in WRONG_SIGNS:
                # Also where each sign is refused, the wrong sign is told first.
                with self.assertRaises(InvalidSign):
                    reader(sign)
                self.assertEqual(seen(reader), behind(A, signs))
        with self.assertRaises(InvalidSign):
            Reader(E)(2)
        self.assertEqual(Reader(GREAT)(255), "open")
        with self.assertRaises(InvalidSign):
            Reader(GREAT)(256)

    def test_wrong_formats(self):
        for form in WRONG_FORMATS:
            with self.assertRaises(InvalidFormat):
                Reader(form)

    def test_twins(self):
        reader = taken(A, (1, 2, 2, 1))
        twin = reader.twin()
        self.assertIs(twin.__class__, Reader)
        self.assertIsNot(twin, reader)
        self.assertEqual(twin, reader)
        self.assertEqual(seen(twin), seen(reader))
        reader(3)
        self.assertEqual((reader.signs, twin.signs), ((1, 2, 2, 1, 3), (1, 2, 2, 1)))
        self.assertEqual(seen(twin), behind(A, (1, 2, 2, 1)))
        twin(0)
        twin(0)
        self.assertEqual(seen(reader), behind(A, (1, 2, 2, 1, 3)))
        self.assertEqual(seen(twin), behind(A, (1, 2, 2, 1, 0, 0)))
        # A twin takes back what was taken before it was made.
        self.assertEqual([twin.undo() for _ in range(6)], [0, 0, 1, 2, 2, 1])
        self.assertEqual(seen(reader), behind(A, (1, 2, 2, 1, 3)))
        self.assertEqual(Reader(A).twin(), Reader(A))

    def test_equal_readers(self):
        some = [taken(form, signs) for form, signs in (
            (A, ()), (A, (1,)), (A, (1, 2)), (A, (1, 3)), (D, ()), (D, (1,)), (D, (1, 2)), (B, ()), (B, (1,)), (A, (1, 2, 0)), (C, ()), (E, ()),
        )]
        for left, right in itertools.product(some, repeat=2):
            expected = (left.form, left.signs) == (right.form, right.signs)
            self.assertIs(left == right, expected)
            self.assertIs(left != right, not expected)
            self.assertIs(left == right.twin(), expected)
        reader = taken(A, (1, 2))
        reader(0)
        reader.undo()
        self.assertEqual(reader, taken(A, (1, 2)))

    def test_other_values_are_not_equal(self):
        for value in (None, (1, 2), A, [], 0, "", Pair(A, B), Sulking(), object(), Reader):
            self.assertIs(taken(A, (1, 2)) == value, False)

    def test_by_name(self):
        reader = Reader(form=A)
        self.assertEqual(reader(sign=1), "open")
        self.assertEqual(reader.signs, (1,))

    def test_what_was_returned_stays(self):
        reader = taken(A, (1, 2, 2, 2, 3))
        signs, told = reader.signs, reader.told
        reader(1)
        reader.undo()
        reader.undo()
        self.assertEqual((signs, told), ((1, 2, 2, 2, 3), ((2, (3,)),)))

    def test_properties_are_not_assigned(self):
        reader = taken(A, (1, 2))
        for name in ("form", "signs", "stand", "told"):
            with self.assertRaises(AttributeError):
                setattr(reader, name, None)
        self.assertEqual(seen(reader), behind(A, (1, 2)))

    def test_a_written_file(self):
        content = ((7, tuple(range(200))), (8, ()), (7, ()), (8, (255, 255)))
        reader = taken(GREAT, write(GREAT, content))
        self.assertEqual(reader.told, content)
        self.assertEqual(reader.stand, ("over",))
        with self.assertRaises(FileError):
            reader(0)


if __name__ == "__main__":
    unittest.main()
