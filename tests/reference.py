"""Formats for the tests, and a second reckoning that is written in another way.

The program goes from stand to stand by single signs. The reader here takes a
file chunk by chunk, and it asks for lengths by looking through all that can be
written, so that a fault of the one is hardly a fault of the other, too. What
the program finds by going through stands, is found here by trying all files,
all contents or all variations.
"""

import itertools
import random
from functools import lru_cache

A = (4, (1, None), "one", 3, ((0, "stop"), (2, "keep")), "skip")
B = (4, (None, 2), "one", 2, ((0, "end"), (1, "check"), (3, "keep")), "refuse")
C = (4, (2,), "one", 0, (), "refuse")
D = (4, (1, 2), "one", 3, ((0, "stop"), (2, "keep")), "refuse")
E = (2, (), "one", 9, ((0, "keep"),), "refuse")
F = (4, (), "low", 2, ((1, "check"),), "skip")

# One tag of each use, and one sign that is no tag.
USES = ((0, "keep"), (1, "check"), (2, "skip"), (3, "end"), (4, "stop"))
ALL_SKIP = (6, (), "one", 5, USES, "skip")
ALL_REFUSE = (6, (), "one", 5, USES, "refuse")

# Values of all kinds, none of which is a format, a file or a content.
ODD_VALUES = (
    None, True, False, 0, 1, -1, 2.0, "", "one", "keep", "skip", b"", b"ab", [], [0], {}, {0: 1}, set(), {0},
    frozenset(), object(), range(2), ("one",), (None,), ((),), (True,), (0.0,), ("0",), (b"0",), ([],), int, len,
    float("nan"), (-1,), (10 ** 9,), 10 ** 30,
)


class Sulking:
    """A value that cannot be compared, measured or hashed."""

    __hash__ = None

    def __eq__(self, other):
        raise RuntimeError("compared")

    def __len__(self):
        raise RuntimeError("measured")

    def __bool__(self):
        raise RuntimeError("tested")


# Values that are no format, and values that are no file of a format of base 4.
WRONG_FORMATS = ODD_VALUES + ((), A[:5], A + (0,), list(A), (A,), Sulking())
WRONG_FILES = ([], [1], (4,), (-1,), (0, True), (False,), (None,), (1.0,), "", b"", None, 0, {}, range(1), ((),), Sulking())

# Values that are no non-empty list of formats of one base.
WRONG_LISTS = ODD_VALUES + (
    (), (A,), (A, B), {A: B}, A, [None], [A, None], [None, A], [A, E], [E, A], [A, B, E], [A, list(B)], [A, B[:5]], [[A]],
    [(A, B)], iter([A]), {0: A}, Sulking(), [Sulking()], [A, Sulking()],
)


class Scan:
    """What the reader finds: the last stand or the refusal, what it told and where it looked."""

    def __init__(self):
        self.stand = None
        self.refused = None
        self.content = []
        self.looked = []

    def stop_at(self, *stand):
        self.stand = stand
        return self

    def refuse_at(self, index, word):
        self.refused = (index, word)
        return self


@lru_cache(maxsize=None)
def lengths(base, width, most):
    """All rows of signs by which a length up to most is written, with this length."""
    found = {}
    for row in itertools.product(range(base), repeat=1 if width == "one" else 2):
        ordered = row[::-1] if width == "low" else row
        value = 0
        for sign in ordered:
            value = value * base + sign
        if value <= most:
            found[row] = value
    return found


def scan(form, file):
    base, head, width, most, tags, others = form
    found = Scan()
    for k, mark in enumerate(head):
        if k == len(file):
            return found.stop_at("head", k)
        if mark is not None:
            if file[k] != mark:
                return found.refuse_at(k, "head")
            found.looked.append(k)
    at = len(head)
    while True:
        if at == len(file):
            return found.stop_at("tag")
        tag = file[at]
        use = dict(tags).get(tag, others)
        if use == "refuse":
            return found.refuse_at(at, "tag")
        found.looked.append(at)
        at += 1
        if use == "end":
            return found.stop_at("room")
        if use == "stop":
            return found.stop_at("over") if at == len(file) else found.refuse_at(at, "behind")
        at = scan_chunk(found, form, file, at, tag, use)
        if at is None:
            return found


def scan_chunk(found, form, file, at, tag, use):
    """Go over a chunk from its length on; the index behind it, None where the scan is over."""
    base, _, width, most, _, _ = form
    rows = lengths(base, width, most)
    many = 1 if width == "one" else 2
    written = file[at:at + many]
    for k in range(len(written)):
        if not any(row[:k + 1] == written[:k + 1] for row in rows):
            found.refuse_at(at + k, "length")
            return None
        found.looked.append(at + k)
    if use != "skip":
        found.content.append((tag, ()))
    if len(written) < many:
        found.stop_at(*(("second", use) + written if written else ("length", use)))
        return None
    length = rows[written]
    at += many
    body = file[at:at + length]
    total = sum(body) % base if use == "check" else 0
    if use != "skip":
        found.content[-1] = (tag, body)
        found.looked.extend(range(at, at + len(body)))
    if len(body) < length:
        found.stop_at("body", use, length - len(body), total)
        return None
    at += length
    if use != "check":
        return at
    if at == len(file):
        found.stop_at("sum", total)
        return None
    if file[at] != total:
        found.refuse_at(at, "check")
        return None
    found.looked.append(at)
    return at + 1


def outcome(form, file):
    """None for a file that is read, otherwise (index, word)."""
    found = scan(form, file)
    if found.refused is not None:
        return found.refused
    ends = [use for _, use in form[4] if use in ("end", "stop")]
    good = [("room",), ("over",)] if ends else [("tag",)]
    return None if found.stand in good else (len(file), "short")


def all_files(base, longest):
    """All files up to a number of signs, in their order."""
    for length in range(longest + 1):
        yield from itertools.product(range(base), repeat=length)


def some_formats(base, many, seed):
    """Unlike formats of a base, always the same for a seed; their heads and lengths are small."""
    chance = random.Random(seed)
    found = {}
    while len(found) < many:
        head = tuple(chance.choice([None] + list(range(base))) for _ in range(chance.randrange(3)))
        uses = [chance.choice(["keep", "check", "skip", "end", "stop", None]) for _ in range(base)]
        tags = tuple((sign, use) for sign, use in enumerate(uses) if use is not None)
        width = chance.choice(["one", "high", "low"])
        form = (base, head, width, chance.randrange(5), tags, chance.choice(["skip", "refuse"]))
        found[form] = True
    return list(found)


def told(form, file):
    """The content of a file, None if it is not read."""
    return tuple(scan(form, file).content) if outcome(form, file) is None else None


@lru_cache(maxsize=None)
def contents(form, longest):
    """All files up to a number of signs that are read, in their order, with their contents."""
    found = {}
    for file in all_files(form[0], longest):
        content = told(form, file)
        if content is not None:
            found[file] = content
    return found


def order(file):
    """The place of a file in the order of files."""
    return len(file), file


def variations(form, file):
    """All variations of a file that a format reads, the nearest ones first."""
    looked = scan(form, file).looked
    rows = [[sign] if k in looked else range(form[0]) for k, sign in enumerate(file)]
    found = list(itertools.product(*rows))
    return sorted(found, key=lambda varied: (sum(a != b for a, b in zip(varied, file)), varied))


def varied_formats(form):
    """The format itself and others that are like it but for one part."""
    base, head, width, most, tags, others = form
    yield form
    for mark in [None] + list(range(base)):
        yield (base, head + (mark,), width, most, tags, others)
        yield (base, (mark,) + head[1:], width, most, tags, others)
    yield (base, head[1:], width, most, tags, others)
    for other in ("one", "high", "low"):
        yield (base, head, other, most, tags, others)
    for other in (0, 1, 2, most + 1, base - 1, base * base - 1, base * base):
        yield (base, head, width, other, tags, others)
    for sign in range(base):
        for use in ("keep", "check", "skip", "end", "stop"):
            yield (base, head, width, most, tuple(sorted({**dict(tags), sign: use}.items())), others)
        yield (base, head, width, most, tuple(tag for tag in tags if tag[0] != sign), others)
    for other in ("skip", "refuse"):
        yield (base, head, width, most, tags, other)
