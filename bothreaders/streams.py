"""Streams: several readers follow the same signs."""

from bothreaders.commons import completion
from bothreaders.errors import Doomed, InvalidFormats, InvalidIndex, InvalidNumber, InvalidSign, NothingToUndo, TooLong
from bothreaders.formats import are_of_one_base, is_integer, is_sign
from bothreaders.machines import FIRST, REFUSED, hopeful_machine, machine_of
from bothreaders.objects import reader_behind
from bothreaders.steps import BASE, ends_well, first_stand, next_stand
from bothreaders.texts import parse_file, show_file


class Stream:
    """Signs that are handed to the readers of several formats; one that has refused a sign gets no more of them."""

    # The number of uses that a tag may have.
    WORDS = 5

    def __init__(self, formats):
        if not Stream.is_valid(formats):
            raise InvalidFormats()
        self._formats = formats
        self._signs = []
        # The stands of all formats ahead of each sign and behind the last one, None for those that have refused.
        self._along = [[first_stand(form) for form in formats]]
        # So many signs were read from a text: they stay.
        self._lasting = 0

    @property
    def formats(self):
        """The tuple of the formats."""
        return self._formats

    @property
    def signs(self):
        """The file so far."""
        return tuple(self._signs)

    @property
    def left(self):
        """The ascending list of the indexes of the formats that have refused no sign."""
        return [k for k, stand in enumerate(self._along[-1]) if stand is not None]

    @property
    def done(self):
        """The ascending list of the indexes of the formats that read the file so far."""
        return [k for k in self.left if ends_well(self._formats[k], self._along[-1][k])]

    def __len__(self):
        return len(self._signs)

    def __getitem__(self, at):
        if not is_integer(at) or at not in self.left:
            raise InvalidIndex()
        return reader_behind(self._formats[at], self._signs)

    def __iter__(self):
        raise TypeError("a stream is not iterated over")

    def put(self, sign):
        """Take the next sign; return the number of the formats left."""
        if not is_sign(sign, self._formats[0][BASE]):
            raise InvalidSign()
        self._check_next((sign,))
        self._take((sign,))
        return len(self.left)

    def completion(self):
        """Return the least file that, put behind the signs, all formats left read, None if there is none."""
        left = [self._formats[k] for k in self.left]
        return completion(left, self.signs) if left else None

    def undo(self):
        """Take the last call of put back and return its sign."""
        if len(self._signs) == self._lasting:
            raise NothingToUndo()
        self._along.pop()
        return self._signs.pop()

    def tell(self):
        """Return the number of the formats, the indexes of those left and the file so far as a list of strings."""
        left = " ".join([str(k) for k in self.left] or ["none"])
        return [f"formats {len(self._formats)}", f"left {left}", show_file(self._formats[0], self.signs)]

    @staticmethod
    def is_valid(value):
        """Return whether any value can be the formats of a stream."""
        return isinstance(value, tuple) and are_of_one_base(value)

    @classmethod
    def read(cls, formats, text):
        """Return a stream that has taken the signs of a text; they cannot be taken back."""
        stream = cls(formats)
        stream._begin(parse_file(formats[0], text))
        return stream

    def _begin(self, signs):
        self._check_next(signs)
        self._take(signs)
        self._lasting = len(signs)

    def _check_next(self, signs):
        """Raise an error if these signs may not come next; a stream of this class takes all."""

    def _take(self, signs):
        for sign in signs:
            stands = _stands_behind(self._formats, self._along[-1], sign)
            self._along.append(stands)
            self._signs.append(sign)


class StrictStream(Stream):
    """A stream that takes a sign only if all formats may still read a file that begins so."""

    def __init__(self, formats):
        super().__init__(formats)
        # The machine of the common files takes a while to make, and only signs need it.
        self._hopeful = None

    def tell(self):
        """Return what a stream tells, and that it is strict."""
        return super().tell() + ["strict"]

    def _check_next(self, signs):
        super()._check_next(signs)
        if self._hopeful is None:
            self._hopeful = hopeful_machine([machine_of(form) for form in self._formats])
        stand = FIRST
        for sign in self._signs + list(signs):
            stand = self._hopeful.moves[stand][sign]
        if stand == REFUSED:
            raise Doomed()


class CappedStream(Stream):
    """A stream of at most so many signs."""

    def __init__(self, formats, most=40):
        super().__init__(formats)
        if not is_integer(most) or most < 0:
            raise InvalidNumber()
        self._most = most

    @property
    def most(self):
        """The greatest number of signs."""
        return self._most

    def tell(self):
        """Return what a stream tells, and the greatest number of signs."""
        return super().tell() + [f"most {self._most}"]

    def _check_next(self, signs):
        if len(self._signs) + len(signs) > self._most:
            raise TooLong()
        super()._check_next(signs)


class StrictCappedStream(CappedStream, StrictStream):
    """A strict stream of at most so many signs."""

    def __init__(self, formats, most=40):
        super().__init__(formats, most)


def _stands_behind(formats, stands, sign):
    return [None if stand is None else next_stand(form, stand, sign) for form, stand in zip(formats, stands)]
