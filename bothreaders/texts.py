"""Formats and files as texts."""

from bothreaders.errors import InvalidText
from bothreaders.formats import are_signs, check_file, check_format, is_format
from bothreaders.steps import BASE

PARTS = ("base", "head", "width", "most", "tags", "others")

# The text of the file without a sign.
EMPTY = "empty"

# What stands for a word that is no number: it is neither a sign nor a length.
NO_NUMBER = -1

# Beyond some thousand digits Python does not turn a word into a number.
MOST_DIGITS = 4000


def show_format(form):
    """Return the text of a format."""
    check_format(form)
    base, head, width, most, tags, others = form
    marks = " ".join(["*" if mark is None else str(mark) for mark in head])
    uses = ", ".join([f"{sign} {use}" for sign, use in tags])
    values = (str(base), marks, width, str(most), uses, others)
    # A part without a value is its word alone.
    return "; ".join([f"{word} {value}" if value else word for word, value in zip(PARTS, values)])


def parse_format(text):
    """Return the format that a text tells."""
    form = _format_of(text) if isinstance(text, str) else None
    # There is one text for each format: what is written in another way is none.
    if not is_format(form) or show_format(form) != text:
        raise InvalidText()
    return form


def show_file(form, file):
    """Return the text of a file."""
    check_file(form, file)
    return _text_of(file)


def parse_file(form, text):
    """Return the file of a format that a text tells."""
    check_format(form)
    file = _file_of(text) if isinstance(text, str) else None
    if not are_signs(file, form[BASE]) or _text_of(file) != text:
        raise InvalidText()
    return file


def _format_of(text):
    """Return what a text tells, if it is that of a format; otherwise any value."""
    values = [part.partition(" ")[2] for part in text.split("; ")]
    if len(values) != len(PARTS):
        return None
    base, marks, width, most, uses, others = values
    head = [None if word == "*" else _number_of(word) for word in _split(marks, " ")]
    tags = [_tag_of(item) for item in _split(uses, ", ")]
    return (_number_of(base), tuple(head), width, _number_of(most), tuple(tags), others)


def _tag_of(item):
    sign, _, use = item.partition(" ")
    return (_number_of(sign), use)


def _split(text, between):
    return text.split(between) if text else []


def _text_of(file):
    return " ".join([str(sign) for sign in file]) if file else EMPTY


def _file_of(text):
    if text == EMPTY:
        return ()
    return tuple([_number_of(word) for word in text.split(" ")])


def _number_of(word):
    if not word.isdigit() or not word.isascii() or len(word) > MOST_DIGITS:
        return NO_NUMBER
    return int(word)
