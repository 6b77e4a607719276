"""Streams: points [24] to [26]."""

import itertools
import random
import unittest

from bothreaders import streams
from bothreaders.commons import completion, doomed
from bothreaders.errors import (
    Doomed, FileError, InvalidFormats, InvalidIndex, InvalidNumber, InvalidSign, InvalidText, NothingToUndo, TooLong,
)
from bothreaders.objects import Reader
from bothreaders.streams import CappedStream, Stream, StrictCappedStream, StrictStream
from bothreaders.texts import show_file
from tests.reference import A, B, C, E, ODD_VALUES, Sulking, outcome, scan, some_formats, varied_formats

GREAT = (256, (255, None), "high", 65535, ((0, "stop"), (7, "keep"), (8, "check")), "skip")
CLASSES = (Stream, StrictStream, CappedStream, StrictCappedStream)
WRONG_SIGNS = (-1, 4, 10 ** 9, True, False, None, 1.0, "1", "", (1,), [1], {}, b"1", object(), Sulking())
WRONG_TUPLES = tuple(value for value in ODD_VALUES) + (
    (), [], [A], [A, B], A, {A: B}, (A, E), (E, A), (A, B, E), (A, None), (None, A), (A, list(B)), (A, B[:5]), ((A,),), ([A],), "A",
    Sulking(), (Sulking(),), (A, Sulking()),
)


def seen(stream):
    """All that can be seen of a stream."""
    readers = [(reader.form, reader.signs, reader.stand, reader.told) for reader in [stream[k] for k in stream.left]]
    capped = [stream.most] if isinstance(stream, CappedStream) else []
    return (stream.formats, stream.signs, stream.left, stream.done, len(stream), stream.tell(), stream.completion(), readers, capped)


def result(function, *arguments):
    """What is returned, or the class of the error."""
    try:
        return function(*arguments)
    except FileError as error:
        return error.__class__


class Model:
    """What a stream has to be, reckoned anew from its signs each time."""

    def __init__(self, kind, formats, most=40):
        self.kind, self.formats, self.most = kind, formats, most
        self.signs, self.lasting = (), 0

    def begin(self, signs):
        error = self.error(signs)
        if error is None and signs:
            self.signs, self.lasting = signs, len(signs)
        return error

    def error(self, signs):
        if issubclass(self.kind, CappedStream) and len(signs) > self.most:
            return TooLong
        if issubclass(self.kind, StrictStream) and signs and doomed(list(self.formats), signs) is not None:
            return Doomed
        return None

    def left(self):
        return [k for k, form in enumerate(self.formats) if scan(form, self.signs).refused is None]

    def put(self, sign):
        if not isinstance(sign, int) or isinstance(sign, bool) or not 0 <= sign < self.formats[0][0]:
            return InvalidSign
        error = self.error(self.signs + (sign,))
        if error is not None:
            return error
        self.signs += (sign,)
        return len(self.left())

    def undo(self):
        if len(self.signs) == self.lasting:
            return NothingToUndo
        self.signs, sign = self.signs[:-1], self.signs[-1]
        return sign

    def seen(self):
        left = self.left()
        done = [k for k in left if outcome(self.formats[k], self.signs) is None]
        tell = [f"formats {len(self.formats)}", "left " + (" ".join(map(str, left)) or "none"), " ".join(map(str, self.signs)) or "empty"]
        tell += ["strict"] if issubclass(self.kind, StrictStream) else []
        tell += [f"most {self.most}"] if issubclass(self.kind, CappedStream) else []
        rest = completion([self.formats[k] for k in left], self.signs) if left else None
        scans = [scan(self.formats[k], self.signs) for k in left]
        readers = [(self.formats[k], self.signs, found.stand, tuple(found.content)) for k, found in zip(left, scans)]
        capped = [self.most] if issubclass(self.kind, CappedStream) else []
        return (self.formats, self.signs, left, done, len(self.signs), tell, rest, readers, capped)


class StreamTest(unittest.TestCase):

    def test_the_beginning(self):
        x = Stream((A, B, C))
        self.assertEqual((x.formats, x.signs, x.left, x.done, len(x)), ((A, B, C), (), [0, 1, 2], [], 0))
        self.assertEqual(x.tell(), ["formats 3", "left 0 1 2", "empty"])
        self.assertEqual([part.__class__ for part in (x.formats, x.signs, x.left, x.done, x.tell())], [tuple, tuple, list, list, list])
        self.assertEqual(Stream((E,)).done, [0])

    def test_put(self):
        x = Stream((A, B, C))
        self.assertEqual([x.put(1), x.left, x.done], [2, [0, 1], []])
        self.assertEqual([x.put(2), x.put(0), x.left, x.done], [2, 2, [0, 1], [0, 1]])
        # The one is over, the other one has room; then both are left behind.
        self.assertEqual([x.put(3), x.left, x.done, x.completion()], [1, [1], [1], ()])
        y = Stream((A, C))
        self.assertEqual([y.put(3), y.left, y.done, y.completion(), y.tell()], [0, [], [], None, ["formats 2", "left none", "3"]])
        # Signs are taken when no format is left, too.
        self.assertEqual([y.put(1), y.signs, y.left, len(y)], [0, (3, 1), [], 2])
        self.assertEqual([y.undo(), y.undo(), y.left], [1, 3, [0, 1]])

    def test_one_format_several_times(self):
        x = Stream((A, A, A))
        self.assertEqual([x.put(1), x.put(0), x.put(0), x.left, x.done], [3, 3, 3, [0, 1, 2], [0, 1, 2]])

    def test_completions_of_the_formats_left(self):
        x = Stream((A, B, C))
        self.assertIsNone(x.completion())
        x.put(1)
        self.assertEqual(x.completion(), (2, 0))
        x.put(0)
        self.assertEqual([x.left, x.completion()], [[0], (0,)])
        x.put(0)
        self.assertEqual([x.left, x.completion()], [[0], ()])
        # Formats that are left and have no file in common behind these signs.
        y = Stream((A, (4, (1, 1, 1, 1), "one", 0, (), "refuse")))
        self.assertEqual([y.put(1), y.put(1), y.left, y.completion()], [2, 2, [0, 1], None])

    def test_readers(self):
        x = Stream((A, B, C))
        for sign in (1, 2, 3):
            x.put(sign)
        for k in (0, 1):
            reader = x[k]
            self.assertIs(reader.__class__, Reader)
            expected = Reader(x.formats[k])
            for sign in (1, 2, 3):
                expected(sign)
            self.assertEqual(reader, expected)
            self.assertEqual((reader.stand, reader.told), (expected.stand, expected.told))
            self.assertIsNot(x[k], reader)
        # A reader goes its own way.
        reader = x[1]
        reader(0)
        reader(0)
        self.assertEqual((reader.signs, x.signs, x[1].signs), ((1, 2, 3, 0, 0), (1, 2, 3), (1, 2, 3)))
        self.assertEqual([reader.undo() for _ in range(5)], [0, 0, 3, 2, 1])
        x.put(1)
        self.assertEqual((reader.signs, len(x)), ((), 4))

    def test_wrong_indexes(self):
        x = Stream((A, B, C))
        x.put(1)
        for index in (2, 3, -1, -2, True, False, None, 1.0, 0.0, "0", (0,), [0], slice(0, 1), slice(None), Ellipsis, 10 ** 9, Sulking()):
            with self.assertRaises(InvalidIndex):
                x[index]
        self.assertEqual(x[0].form, A)
        x.put(0)
        with self.assertRaises(InvalidIndex):
            x[1]
        x.undo()
        self.assertEqual(x[1].form, B)

    def test_wrong_signs(self):
        for kind in CLASSES:
            x = kind((A, B))
            for signs in ((), (1, 2), (1, 2, 0)):
                for sign in signs[len(x):]:
                    x.put(sign)
                before = seen(x)
                for sign in WRONG_SIGNS:
                    with self.assertRaises(InvalidSign):
                        x.put(sign)
                    self.assertEqual(seen(x), before)

    def test_wrong_signs_come_ahead_of_other_errors(self):
        for x in (CappedStream((A, B), 0), StrictCappedStream((A, C), 0), StrictStream((A, C)), StrictCappedStream((A, C), 5)):
            for sign in WRONG_SIGNS:
                with self.assertRaises(InvalidSign):
                    x.put(sign)

    def test_undo(self):
        x = Stream((A, B, C))
        for _ in range(2):
            with self.assertRaises(NothingToUndo):
                x.undo()
        states = []
        for sign in (1, 2, 3, 0, 0, 3, 1):
            states.append(seen(x))
            x.put(sign)
        for sign in (1, 3, 0, 0, 3, 2, 1):
            self.assertEqual(x.undo(), sign)
            self.assertEqual(seen(x), states.pop())
        with self.assertRaises(NothingToUndo):
            x.undo()

    def test_each_list_is_a_new_one(self):
        x = StrictCappedStream((A, B))
        x.put(1)
        for get in (lambda: x.left, lambda: x.done, x.tell):
            first = get()
            kept = list(first)
            self.assertIsNot(get(), first)
            first.append(None)
            self.assertEqual(get(), kept)
        x.left.clear()
        x.tell().clear()
        self.assertEqual((x.left, len(x.tell())), ([0, 1], 5))
        self.assertIsNot(x.left, x.done)

    def test_valid_formats(self):
        for kind in CLASSES:
            for formats in ((A,), (A, B), (A, B, C), (E,), (GREAT, GREAT), (A, A, A, A)):
                self.assertIs(kind.is_valid(formats), True)
                self.assertEqual(kind(formats).formats, formats)
                self.assertIs(kind(formats).is_valid(formats), True)
            for value in WRONG_TUPLES:
                with self.subTest(value=repr(value)[:50]):
                    self.assertIs(kind.is_valid(value), False)
                    with self.assertRaises(InvalidFormats):
                        kind(value)
                    with self.assertRaises(InvalidFormats):
                        kind.read(value, None)

    def test_words(self):
        for kind in CLASSES:
            self.assertEqual(kind.WORDS, 5)
            self.assertEqual(kind((A,)).WORDS, 5)
            self.assertNotIsInstance(kind.WORDS, bool)

    def test_by_name(self):
        x = Stream(formats=(A, B))
        self.assertEqual(x.put(sign=1), 2)
        self.assertIs(Stream.is_valid(value=(A, B)), True)
        self.assertEqual(Stream.read(text="1 2", formats=(A, B)).signs, (1, 2))
        self.assertEqual(StrictStream(formats=(A, B)).put(sign=1), 2)
        for kind in (CappedStream, StrictCappedStream):
            self.assertEqual((kind(most=3, formats=(A, B)).most, kind(formats=(A, B)).most, kind((A, B), 7).most), (3, 40, 7))
            self.assertEqual(kind.read(formats=(A, B), text="1").most, 40)

    def test_a_stream_is_not_iterated_over(self):
        with self.assertRaises(TypeError):
            iter(Stream((A, B)))

    def test_properties_are_not_assigned(self):
        x = StrictCappedStream((A, B))
        for name in ("formats", "signs", "left", "done", "most"):
            with self.assertRaises(AttributeError):
                setattr(x, name, None)

    def test_great_formats(self):
        x = Stream((GREAT, GREAT[:3] + (9,) + GREAT[4:], (256, (), "one", 65535, ((255, "keep"),), "skip")))
        self.assertEqual([x.put(sign) for sign in (255, 7, 8, 255, 255)], [3, 3, 3, 2, 2])
        self.assertEqual([x[0].stand, x.left, x[2].told], [("body", "check", 65535, 0), [0, 2], ((255, (8, 255, 255)),)])
        self.assertEqual(x.tell(), ["formats 3", "left 0 2", "255 7 8 255 255"])


class ReadTest(unittest.TestCase):

    def test_texts(self):
        for kind in CLASSES:
            for text, signs in (("empty", ()), ("1", (1,)), ("1 2 3 0 0", (1, 2, 3, 0, 0))):
                x = kind.read((A, B), text)
                self.assertIs(x.__class__, kind)
                self.assertEqual(x.signs, signs)
                model = Model(kind, (A, B))
                self.assertIsNone(model.begin(signs))
                self.assertEqual(seen(x), model.seen())

    def test_what_was_read_is_not_taken_back(self):
        for kind in CLASSES:
            x = kind.read((A, B), "1 2")
            with self.assertRaises(NothingToUndo):
                x.undo()
            self.assertEqual([x.put(3), x.put(0), x.undo(), x.undo(), x.signs], [2, 2, 0, 3, (1, 2)])
            before = seen(x)
            for _ in range(2):
                with self.assertRaises(NothingToUndo):
                    x.undo()
                self.assertEqual(seen(x), before)
            self.assertEqual([x.put(0), x.done], [2, [0, 1]])

    def test_texts_that_are_none(self):
        for kind in CLASSES:
            for text in ODD_VALUES + ("", " ", "1 ", " 1", "01", "1 4", "1,2", "one", "1  2", (1, 2), Sulking()):
                with self.assertRaises(InvalidText):
                    kind.read((A, B), text)
                with self.assertRaises(InvalidText):
                    kind.read((A, C), text)
            with self.assertRaises(InvalidText):
                kind.read((E,), "0 2")

    def test_formats_that_refuse(self):
        x = Stream.read((A, B, C), "2 0 3")
        self.assertEqual([x.left, x.done, x.signs, x.tell()], [[], [], (2, 0, 3), ["formats 3", "left none", "2 0 3"]])

    def test_a_long_text(self):
        signs = (0, 1, 1) * 5000
        form = (2, (), "one", 9, ((0, "keep"),), "refuse")
        x = Stream.read((form, form), show_file(form, signs))
        self.assertEqual([len(x), x.left, x.done, x.signs == signs, len(x[1].told)], [15000, [0, 1], [0, 1], True, 5000])
        y = StrictStream.read((form, form), show_file(form, signs))
        self.assertEqual([len(y), y.put(0), y.undo()], [15000, 2, 0])
        with self.assertRaises(TooLong):
            StrictCappedStream.read((form, form), show_file(form, signs))


class StrictTest(unittest.TestCase):

    def test_doomed_signs(self):
        x = StrictStream((A, B))
        for sign in (0, 2, 3):
            with self.assertRaises(Doomed):
                x.put(sign)
        self.assertEqual([x.signs, x.put(1)], [(), 2])
        before = seen(x)
        for sign in (0, 1, 3):
            with self.assertRaises(Doomed):
                x.put(sign)
            self.assertEqual(seen(x), before)
        self.assertEqual([x.put(2), x.put(3), x.completion(), x.undo(), x.put(0), x.done], [2, 2, (0, 0), 3, 2, [0, 1]])

    def test_doomed_though_no_format_refuses_the_sign(self):
        one = (4, (1,), "one", 3, ((0, "keep"), (3, "stop")), "refuse")
        other = (4, (1,), "one", 3, ((0, "keep"), (3, "stop")), "skip")
        third = (4, (1,), "one", 3, ((0, "stop"), (3, "stop")), "skip")
        x = StrictStream((one, other, third))
        self.assertEqual(x.put(1), 3)
        # All take 0, and behind it the third one is over.
        self.assertEqual(Stream.read((one, other, third), "1 0").left, [0, 1, 2])
        with self.assertRaises(Doomed):
            x.put(0)
        self.assertEqual([x.put(3), x.done], [3, [0, 1, 2]])

    def test_a_stream_that_begins_doomed(self):
        for kind in (StrictStream, StrictCappedStream):
            for x in (kind((A, C)), kind.read((A, C), "empty")):
                self.assertEqual([x.signs, x.left, x.completion()], [(), [0, 1], None])
                for sign in range(4):
                    with self.assertRaises(Doomed):
                        x.put(sign)
                self.assertEqual(x.signs, ())

    def test_doomed_texts(self):
        for kind in (StrictStream, StrictCappedStream):
            for text in ("0", "1 0", "1 2 2", "1 2 0 0", "3 3 3 3"):
                with self.assertRaises(Doomed):
                    kind.read((A, B), text)
            with self.assertRaises(Doomed):
                kind.read((A, C), "1")
            self.assertEqual(kind.read((A, B), "1 2 0").done, [0, 1])

    def test_what_it_tells(self):
        self.assertEqual(StrictStream((A, B, C)).tell(), ["formats 3", "left 0 1 2", "empty", "strict"])


class CappedTest(unittest.TestCase):

    def test_too_long(self):
        x = CappedStream((A, B), 2)
        self.assertEqual([x.put(3), x.put(2)], [1, 1])
        before = seen(x)
        for sign in range(4):
            with self.assertRaises(TooLong):
                x.put(sign)
            self.assertEqual(seen(x), before)
        self.assertEqual([x.undo(), x.put(3), len(x)], [2, 0, 2])
        with self.assertRaises(TooLong):
            x.put(0)
        self.assertEqual(result(CappedStream((A,), 0).put, 1), TooLong)

    def test_numbers(self):
        for kind in (CappedStream, StrictCappedStream):
            for most in (0, 1, 40, 41, 10 ** 9):
                x = kind((A, B), most)
                self.assertEqual((x.most, x.tell()[-1]), (most, f"most {most}"))
            for most in (-1, True, False, None, 1.0, "1", (), (1,), [], {}, A, Sulking()):
                with self.assertRaises(InvalidNumber):
                    kind((A, B), most)
                with self.assertRaises(InvalidNumber):
                    kind((A, B), most=most)
                with self.assertRaises(InvalidFormats):
                    kind((A, E), most)
                with self.assertRaises(InvalidFormats):
                    kind([A, B], most)

    def test_forty_signs_unless_another_number_is_told(self):
        for kind in (CappedStream, StrictCappedStream):
            x = kind((E, E))
            for k in range(40):
                self.assertEqual(x.put(0), 2)
            with self.assertRaises(TooLong):
                x.put(0)
            self.assertEqual((len(x), x.most), (40, 40))
            y = kind.read((E, E), "0 " * 39 + "0")
            self.assertEqual((len(y), y.most), (40, 40))
            with self.assertRaises(TooLong):
                y.put(0)
            with self.assertRaises(TooLong):
                kind.read((E, E), "0 " * 40 + "0")

    def test_too_long_comes_ahead_of_doomed(self):
        x = StrictCappedStream((A, B), 1)
        self.assertEqual([result(x.put, 0), x.put(1), result(x.put, 0), result(x.put, 2)], [Doomed, 2, TooLong, TooLong])
        self.assertEqual(result(StrictCappedStream((A, C), 0).put, 1), TooLong)
        self.assertEqual(result(StrictCappedStream((A, C), 1).put, 1), Doomed)
        # The whole text is too long, and its first sign is doomed.
        self.assertEqual(result(StrictCappedStream.read, (A, B), "0 " * 40 + "0"), TooLong)
        self.assertEqual(result(StrictCappedStream.read, (A, B), "0 " * 39 + "0"), Doomed)
        self.assertEqual(result(StrictStream.read, (A, B), "0 " * 40 + "0"), Doomed)
        self.assertEqual(result(StrictCappedStream.read, (A, B), "0 " * 40 + "4"), InvalidText)

    def test_what_they_tell(self):
        x = CappedStream((A, B, C), 7)
        x.put(2)
        self.assertEqual(x.tell(), ["formats 3", "left 1 2", "2", "most 7"])
        self.assertEqual(StrictCappedStream((A, B), 7).tell(), ["formats 2", "left 0 1", "empty", "strict", "most 7"])

    def test_classes(self):
        for above, kind, expected in (
            (Stream, StrictStream, True), (Stream, CappedStream, True), (StrictStream, StrictCappedStream, True),
            (CappedStream, StrictCappedStream, True), (StrictStream, CappedStream, False), (CappedStream, StrictStream, False),
        ):
            self.assertIs(issubclass(kind, above), expected)
        self.assertFalse(hasattr(Stream((A,)), "most"))
        self.assertFalse(hasattr(StrictStream((A,)), "most"))
        self.assertEqual(sorted(name for name, value in vars(streams).items() if isinstance(value, type) and issubclass(value, Stream)),
                         ["CappedStream", "Stream", "StrictCappedStream", "StrictStream"])


class ModelTest(unittest.TestCase):

    def test_calls_at_random(self):
        chance = random.Random(120)
        found = {}
        for base in (2, 3, 4):
            some = some_formats(base, 12, 121)
            for form in some:
                near = list(varied_formats(form))
                for kind in CLASSES:
                    formats = tuple(chance.choice([chance.choice(near), chance.choice(near), chance.choice(some)])
                                    for _ in range(chance.randrange(1, 4)))
                    self.assert_calls(kind, formats, chance, found)
        for name in ("put", "undo", "Doomed", "TooLong", "NothingToUndo", "InvalidSign", "read"):
            self.assertGreater(found.get(name, 0), 20, name)

    def assert_calls(self, kind, formats, chance, found):
        most = chance.choice([0, 3, 8, 40])
        model = Model(kind, formats, most)
        stream = kind(formats, most) if issubclass(kind, CappedStream) else kind(formats)
        if chance.random() < 0.3:
            signs = tuple(chance.randrange(formats[0][0]) for _ in range(chance.randrange(3)))
            model = Model(kind, formats)
            expected = model.begin(signs)
            read = result(kind.read, formats, show_file(formats[0], signs))
            if expected is not None:
                self.assertIs(read, expected)
                return
            found["read"] = found.get("read", 0) + 1
            stream = read
        for _ in range(14):
            sign = chance.choice(list(range(formats[0][0])) * 3 + [formats[0][0], True, -1])
            rest = stream.completion()
            if rest and chance.random() < 0.6:
                sign = rest[0]
            call, expected = chance.choice([("put", model.put), ("put", model.put), ("put", model.put), ("undo", model.undo)])
            arguments = () if call == "undo" else (sign,)
            told = result(getattr(stream, call), *arguments)
            self.assertEqual(told, expected(*arguments))
            self.assertEqual(seen(stream), model.seen())
            word = told.__name__ if isinstance(told, type) else call
            found[word] = found.get(word, 0) + 1

    def test_all_rows_of_signs_of_strict_streams(self):
        for base, longest in ((2, 5), (3, 4)):
            some = some_formats(base, 8, 122)
            for formats in list(zip(some, some[1:])) + [(form, list(varied_formats(form))[k]) for k, form in enumerate(some)]:
                x = StrictStream(formats)
                for signs in itertools.product(range(base), repeat=longest):
                    while len(x):
                        x.undo()
                    for sign in signs:
                        good = doomed(list(formats), x.signs + (sign,)) is None
                        self.assertEqual(result(x.put, sign), len(formats) if good else Doomed)
                        if not good:
                            break


if __name__ == "__main__":
    unittest.main()
