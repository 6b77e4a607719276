"""Reading and writing one file."""

from bothreaders.errors import InvalidContent, Refused
from bothreaders.formats import are_signs, check_file, check_format, is_sign
from bothreaders.steps import BASE, HEAD, MOST, NOTHING, TOLD_USES, WIDTH
from bothreaders.steps import end_tag, ends_well, looks, stands_along, told_part, use_of

# The words of a refusal, by the name of the stand. At the other stands no
# sign is refused.
REFUSALS = {"head": "head", "tag": "tag", "length": "length", "second": "length", "sum": "check", "over": "behind"}


def read(form, file):
    """Return the content of a file; raise Refused if it is not read."""
    return told_along(form, file, along_read(form, file))


def refusal(form, file):
    """Return where and why a file is not read, as (index, word), or None."""
    check_file(form, file)
    return refusal_along(form, stands_along(form, file))


def looked_at(form, file):
    """Return the ascending list of the indexes at which the reader looks."""
    along = along_read(form, file)
    return [k for k in range(len(file)) if looks(form, along[k])]


def is_content(form, value):
    """Return whether any value is the content of some file of a format."""
    check_format(form)
    return isinstance(value, tuple) and all([_is_chunk(form, chunk) for chunk in value])


def write(form, content):
    """Return the least file with a content."""
    check_content(form, content)
    signs = [0 if mark is None else mark for mark in form[HEAD]]
    for tag, body in content:
        signs.extend(_chunk_signs(form, tag, body))
    last = end_tag(form)
    if last is not None:
        signs.append(last)
    return tuple(signs)


def check_content(form, content):
    """Raise InvalidFormat or InvalidContent if a value is no format or no content of it."""
    if not is_content(form, content):
        raise InvalidContent()


def word_at(stand):
    """Return the word of a refusal at a stand."""
    return REFUSALS[stand[0]]


def refusal_along(form, along):
    """Return where and why a file with these stands is not read, or None."""
    if along[-1] is None:
        return (len(along) - 2, word_at(along[-2]))
    if not ends_well(form, along[-1]):
        return (len(along) - 1, "short")
    return None


def along_read(form, file):
    """Return the stands along a file; raise Refused if it is not read."""
    check_file(form, file)
    along = stands_along(form, file)
    found = refusal_along(form, along)
    if found is not None:
        raise Refused(found[0], found[1])
    return along


def content_or_none(form, file):
    """Return the content of a file, None if it is not read."""
    along = stands_along(form, file)
    if refusal_along(form, along) is not None:
        return None
    return told_along(form, file, along)


def told_along(form, signs, along):
    """Return what a reader has told behind signs that it takes, with these stands: the last body perhaps a part.

    Behind a file that is read, this is its content.
    """
    parts = [told_part(form, along[k], signs[k]) for k in range(len(signs))]
    begun = [k for k in range(len(signs)) if parts[k] >= form[BASE]]
    over = begun[1:] + [len(signs)]
    return tuple([(signs[at], _body_of(parts[at + 1:end])) for at, end in zip(begun, over)])


def _body_of(parts):
    return tuple([part for part in parts if part != NOTHING])


def _greatest_length(form):
    # The greatest length may be above what the width can write.
    base = form[BASE]
    written = base - 1 if form[WIDTH] == "one" else base * base - 1
    return min(form[MOST], written)


def _is_chunk(form, value):
    if not isinstance(value, tuple) or len(value) != 2:
        return False
    tag, body = value
    if not is_sign(tag, form[BASE]) or use_of(form, tag) not in TOLD_USES:
        return False
    return are_signs(body, form[BASE]) and len(body) <= _greatest_length(form)


def _chunk_signs(form, tag, body):
    check = [sum(body) % form[BASE]] if use_of(form, tag) == "check" else []
    return [tag] + _length_signs(form, len(body)) + list(body) + check


def _length_signs(form, length):
    if form[WIDTH] == "one":
        return [length]
    high = length // form[BASE]
    low = length % form[BASE]
    return [high, low] if form[WIDTH] == "high" else [low, high]
