"""Live readers, and pairs of formats as objects."""

from bothreaders.commons import common, completion, table
from bothreaders.errors import InvalidMark, InvalidNumber, InvalidSign, NothingToUndo, Refused
from bothreaders.faces import lost, unlike
from bothreaders.formats import check_format, check_same_base, check_two_formats, is_file, is_integer, is_sign
from bothreaders.machines import joint_machine, machine_of
from bothreaders.readers import read, refusal, told_along, word_at
from bothreaders.searches import read_the_same
from bothreaders.steps import BASE, HEAD, ends_well, first_stand, next_stand, stands_along, with_head
from bothreaders.washers import stubborn
from bothreaders.washing import steady, washed


class Reader:
    """An object that reads a file sign by sign."""

    def __init__(self, form):
        check_format(form)
        self._form = form
        self._signs = []
        # The stands ahead of each sign and behind the last one.
        self._along = [first_stand(form)]

    @property
    def form(self):
        """The format."""
        return self._form

    @property
    def signs(self):
        """The file so far."""
        return tuple(self._signs)

    @property
    def stand(self):
        """The stand behind the file so far."""
        return self._along[-1]

    @property
    def told(self):
        """What was told so far: a tuple of (tag, body), the last body perhaps a part."""
        return told_along(self._form, self._signs, self._along)

    def __call__(self, sign):
        """Take the next sign; return "done" if the file so far is read, otherwise "open"."""
        if not is_sign(sign, self._form[BASE]):
            raise InvalidSign()
        behind = next_stand(self._form, self._along[-1], sign)
        if behind is None:
            raise Refused(len(self._signs), word_at(self._along[-1]))
        self._signs.append(sign)
        self._along.append(behind)
        return "done" if ends_well(self._form, behind) else "open"

    def __len__(self):
        return len(self._signs)

    def __eq__(self, other):
        return isinstance(other, Reader) and self._form == other._form and self._signs == other._signs

    def undo(self):
        """Take the last sign back and return it."""
        if not self._signs:
            raise NothingToUndo()
        self._along.pop()
        return self._signs.pop()

    def twin(self):
        """Return another reader with the same format and signs."""
        return reader_behind(self._form, self._signs)


class Pair:
    """Two formats of one base; it never changes."""

    def __init__(self, one, other):
        check_two_formats(one, other)
        check_same_base(one, other)
        self._one = one
        self._other = other

    @property
    def one(self):
        """The one format."""
        return self._one

    @property
    def other(self):
        """The other format."""
        return self._other

    def __bool__(self):
        return bool(common(self._one, self._other) is not None)

    def __contains__(self, x):
        return is_file(self._one, x) and refusal(self._one, x) is None and refusal(self._other, x) is None

    def __eq__(self, other):
        return isinstance(other, Pair) and read_the_same(_common_machine(self), _common_machine(other))

    def __invert__(self):
        return Pair(self._other, self._one)

    def __add__(self, other):
        if other is not None and not is_sign(other, self._one[BASE]):
            raise InvalidMark()
        return Pair(_with_mark(self._one, other), _with_mark(self._other, other))

    def __sub__(self, other):
        if not is_integer(other) or not 0 <= other <= min(len(self._one[HEAD]), len(self._other[HEAD])):
            raise InvalidNumber()
        return Pair(_without_last_marks(self._one, other), _without_last_marks(self._other, other))

    def __getitem__(self, at):
        return (read(self._one, at), read(self._other, at))

    def __iter__(self):
        raise TypeError("a pair of formats is not iterated over")

    def __call__(self, beginning):
        """Return the least completion of a beginning to a common file, None if there is none."""
        return completion([self._one, self._other], beginning)

    def common(self):
        """Return the least file that both formats read, None if there is none."""
        return common(self._one, self._other)

    def unlike(self):
        """Return the least common file of which both tell unlike contents, None if there is none."""
        return unlike(self._one, self._other)

    def lost(self):
        """Return the least file of the one that the other refuses or tells otherwise, None if there is none."""
        return lost(self._one, self._other)

    def stubborn(self):
        """Return the least file of the one that cannot be washed, None if there is none."""
        return stubborn(self._one, self._other)

    def table(self):
        """Return the ascending list of the fewest pairs of stands that show that there is no common file."""
        return table(self._one, self._other)

    def washed(self, file):
        """Return the nearest variation of a file of the one that the other refuses, None if it reads all."""
        return washed(self._one, self._other, file)

    def steady(self, file):
        """Return whether the other reads all variations of a file of the one and tells the same content of all."""
        return steady(self._one, self._other, file)


def reader_behind(form, signs):
    """Return a reader of a format that has taken signs; it refuses none of them."""
    reader = Reader(form)
    reader._signs = list(signs)
    reader._along = stands_along(form, signs)
    return reader


def _common_machine(pair):
    return joint_machine(machine_of(pair.one), machine_of(pair.other))


def _with_mark(form, mark):
    return with_head(form, form[HEAD] + (mark,))


def _without_last_marks(form, many):
    return with_head(form, form[HEAD][:len(form[HEAD]) - many])
