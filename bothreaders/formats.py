"""Formats, files, and the stands of a reader."""

from bothreaders.errors import InvalidFile, InvalidFormat
from bothreaders.steps import BASE, first_stand, next_stand, stands_along

WIDTHS = ("one", "high", "low")
USES = ("keep", "check", "skip", "end", "stop")


def is_format(value):
    """Return whether any value is a format."""
    if not isinstance(value, tuple) or len(value) != 6:
        return False
    base, head, width, most, tags, others = value
    if not is_integer(base) or not 2 <= base <= 256:
        return False
    if not _is_head(head, base) or not _is_word(width, WIDTHS):
        return False
    if not is_integer(most) or most < 0:
        return False
    return _are_tags(tags, base) and _is_word(others, ("skip", "refuse"))


def is_file(form, value):
    """Return whether any value is a file of a format."""
    check_format(form)
    return are_signs(value, form[BASE])


def stand_behind(form, beginning):
    """Return the stand behind a beginning, None if a sign of it is refused."""
    check_file(form, beginning)
    return stands_along(form, beginning)[-1]


def stands(form):
    """Return the ascending list of all stands behind some beginning."""
    check_format(form)
    found = [first_stand(form)]
    seen = set(found)
    at = 0
    while at < len(found):
        for sign in range(form[BASE]):
            stand = next_stand(form, found[at], sign)
            if stand is not None and stand not in seen:
                seen.add(stand)
                found.append(stand)
        at += 1
    return sorted(found)


def check_format(form):
    """Raise InvalidFormat if a value is no format."""
    if not is_format(form):
        raise InvalidFormat()


def check_file(form, file):
    """Raise InvalidFormat or InvalidFile if a value is no format or no file of it."""
    if not is_file(form, file):
        raise InvalidFile()


def is_integer(value):
    """Return whether any value is an integer: True and False are none."""
    return isinstance(value, int) and not isinstance(value, bool)


def is_sign(value, base):
    """Return whether any value is a sign of a base."""
    return is_integer(value) and 0 <= value < base


def are_signs(value, base):
    """Return whether any value is a tuple of signs of a base."""
    return isinstance(value, tuple) and all([is_sign(sign, base) for sign in value])


def _is_word(value, words):
    # Only strings are compared: another value may answer == as it likes.
    return isinstance(value, str) and value in words


def _is_head(value, base):
    if not isinstance(value, tuple):
        return False
    return all([mark is None or is_sign(mark, base) for mark in value])


def _is_tag(value, base):
    if not isinstance(value, tuple) or len(value) != 2:
        return False
    return is_sign(value[0], base) and _is_word(value[1], USES)


def _are_tags(value, base):
    if not isinstance(value, tuple) or not all([_is_tag(tag, base) for tag in value]):
        return False
    return all([value[k - 1][0] < value[k][0] for k in range(1, len(value))])
