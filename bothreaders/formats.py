"""Formats, files, and the stands of a reader."""

from bothreaders.errors import InvalidFile, InvalidFormat, InvalidFormats, InvalidLength, OtherBase
from bothreaders.steps import BASE, all_stands, stands_along

WIDTHS = ("one", "high", "low")
USES = ("keep", "check", "skip", "end", "stop")


def is_format(value):
    """Return whether any value is a format."""
    if not isinstance(value, tuple) or len(value) != 6:
        return False
    base, head, width, most, tags, others = value
    if not is_integer(base) or not 2 <= base <= 256:
        return False
    if not _is_head(head, base) or not _is_word(width, WIDTHS):
        return False
    if not is_integer(most) or most < 0:
        return False
    return _are_tags(tags, base) and _is_word(others, ("skip", "refuse"))


def is_file(form, value):
    """Return whether any value is a file of a format."""
    check_format(form)
    return are_signs(value, form[BASE])


def stand_behind(form, beginning):
    """Return the stand behind a beginning, None if a sign of it is refused."""
    check_file(form, beginning)
    return stands_along(form, beginning)[-1]


def stands(form):
    """Return the ascending list of all stands behind some beginning."""
    check_format(form)
    return sorted(all_stands(form))


def check_format(form):
    """Raise InvalidFormat if a value is no format."""
    if not is_format(form):
        raise InvalidFormat()


def check_file(form, file):
    """Raise InvalidFormat or InvalidFile if a value is no format or no file of it."""
    if not is_file(form, file):
        raise InvalidFile()


def check_formats(value):
    """Raise InvalidFormats if a value is no non-empty list of formats of one base."""
    if not isinstance(value, list) or not are_of_one_base(value):
        raise InvalidFormats()


def check_two_formats(one, other):
    """Raise InvalidFormat if one of two values is no format."""
    check_format(one)
    check_format(other)


def check_same_base(one, other):
    """Raise OtherBase if two formats have unlike bases."""
    if one[BASE] != other[BASE]:
        raise OtherBase()


def check_length(value):
    """Raise InvalidLength if a value is no integer from 0 on."""
    if not is_integer(value) or value < 0:
        raise InvalidLength()


def are_of_one_base(values):
    """Return whether the items of a list or a tuple are formats of one base, at least one."""
    if len(values) == 0 or not all([is_format(value) for value in values]):
        return False
    return all([form[BASE] == values[0][BASE] for form in values])


def is_integer(value):
    """Return whether any value is an integer: True and False are none."""
    return isinstance(value, int) and not isinstance(value, bool)


def is_sign(value, base):
    """Return whether any value is a sign of a base."""
    return is_integer(value) and 0 <= value < base


def are_signs(value, base):
    """Return whether any value is a tuple of signs of a base."""
    return isinstance(value, tuple) and all([is_sign(sign, base) for sign in value])


def is_like_stand(value):
    """Return whether any value is a tuple of strings and integers, and so may be looked up among stands."""
    # True and 1 are the same key of a set, so the kinds are looked at first.
    return isinstance(value, tuple) and all([isinstance(part, str) or is_integer(part) for part in value])


def _is_word(value, words):
    # Only strings are compared: another value may answer == as it likes.
    return isinstance(value, str) and value in words


def _is_head(value, base):
    if not isinstance(value, tuple):
        return False
    return all([mark is None or is_sign(mark, base) for mark in value])


def _is_tag(value, base):
    if not isinstance(value, tuple) or len(value) != 2:
        return False
    return is_sign(value[0], base) and _is_word(value[1], USES)


def _are_tags(value, base):
    if not isinstance(value, tuple) or not all([_is_tag(tag, base) for tag in value]):
        return False
    return all([value[k - 1][0] < value[k][0] for k in range(1, len(value))])
