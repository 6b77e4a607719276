"""How a reader goes over a file sign by sign, from stand to stand.

Nothing is checked here: the callers pass formats and signs of their base.
"""

# The places of the parts of a format.
BASE = 0
HEAD = 1
WIDTH = 2
MOST = 3
TAGS = 4
OTHERS = 5

TAG = ("tag",)
ROOM = ("room",)
OVER = ("over",)

TOLD_USES = ("keep", "check")

# What a reader tells at a sign at which it tells nothing; no sign and no tag
# is told by this number.
NOTHING = -1


def first_stand(form):
    """Return the stand at the beginning of a file."""
    return behind_marks(form, 0)


def behind_marks(form, count):
    """Return the stand behind the first marks of the head, so many."""
    if count < len(form[HEAD]):
        return ("head", count)
    return TAG


def with_head(form, head):
    """Return a format with another head."""
    return form[:HEAD] + (head,) + form[WIDTH:]


def use_of(form, sign):
    """Return the use of a sign at a tag's place, "refuse" if it has none."""
    for tag, use in form[TAGS]:
        if tag == sign:
            return use
    # What others says is just what becomes of such a sign: "skip" or "refuse".
    return form[OTHERS]


def end_tag(form):
    """Return the least tag with the use "end" or "stop", None if there is none."""
    for tag, use in form[TAGS]:
        if use in ("end", "stop"):
            return tag
    return None


def next_stand(form, stand, sign):
    """Return the stand behind a sign that comes at a stand, None if it is refused."""
    name = stand[0]
    if name == "body":
        return _behind_body_sign(form, stand, sign)
    if name == "tag":
        return _behind_tag(form, sign)
    if name == "head":
        return _behind_mark(form, stand[1], sign)
    if name == "length":
        return _behind_first(form, stand[1], sign)
    if name == "second":
        return _behind_second(form, stand[1], stand[2], sign)
    if name == "sum":
        return TAG if sign == stand[1] else None
    return ROOM if name == "room" else None


def _behind_mark(form, at, sign):
    mark = form[HEAD][at]
    if mark is not None and mark != sign:
        return None
    return behind_marks(form, at + 1)


def _behind_tag(form, sign):
    use = use_of(form, sign)
    if use == "refuse":
        return None
    if use == "end":
        return ROOM
    if use == "stop":
        return OVER
    return ("length", use)


def _behind_first(form, use, sign):
    # The least length that may still follow decides, so the sign is refused
    # as early as the document asks for.
    least = sign * form[BASE] if form[WIDTH] == "high" else sign
    if least > form[MOST]:
        return None
    if form[WIDTH] == "one":
        return _behind_length(use, sign)
    return ("second", use, sign)


def _behind_second(form, use, first, sign):
    if form[WIDTH] == "high":
        length = first * form[BASE] + sign
    else:
        length = sign * form[BASE] + first
    if length > form[MOST]:
        return None
    return _behind_length(use, length)


def _behind_length(use, length):
    if length > 0:
        return ("body", use, length, 0)
    return _behind_body(use, 0)


def _behind_body(use, due):
    if use == "check":
        return ("sum", due)
    return TAG


def _behind_body_sign(form, stand, sign):
    _, use, left, total = stand
    if use == "check":
        total = (total + sign) % form[BASE]
    if left > 1:
        return ("body", use, left - 1, total)
    return _behind_body(use, total)


def ends_well(form, stand):
    """Return whether a file that ends at a stand is read."""
    if stand == TAG:
        return end_tag(form) is None
    return stand == ROOM or stand == OVER


def told_part(form, stand, sign):
    """Return the number by which a reader tells a sign that it does not refuse.

    A sign of a body is told by itself, a tag by a number from base on. So the
    parts of two contents are the same just if the contents are.
    """
    if stand == TAG and use_of(form, sign) in TOLD_USES:
        return form[BASE] + sign
    if stand[0] == "body" and stand[1] in TOLD_USES:
        return sign
    return NOTHING


def parts_of(form, content):
    """Return the list of the parts of a content, as a reader tells them."""
    parts = []
    for tag, body in content:
        parts.append(form[BASE] + tag)
        parts.extend(body)
    return parts


def looks(form, stand):
    """Return whether the reader looks at the sign that comes at a stand."""
    if stand[0] == "head":
        return form[HEAD][stand[1]] is not None
    if stand[0] == "body":
        return stand[1] != "skip"
    return stand != ROOM


def all_stands(form):
    """Return the list of all stands behind some beginning, the first stand first."""
    found = [first_stand(form)]
    seen = set(found)
    at = 0
    while at < len(found):
        for sign in range(form[BASE]):
            stand = next_stand(form, found[at], sign)
            if stand is not None and stand not in seen:
                seen.add(stand)
                found.append(stand)
        at += 1
    return found


def stands_along(form, file):
    """Return the list of the stands ahead of each sign and behind the last one.

    If a sign is refused, the list ends with None behind this sign.
    """
    stand = first_stand(form)
    along = [stand]
    for sign in file:
        stand = next_stand(form, stand, sign)
        along.append(stand)
        if stand is None:
            break
    return along
