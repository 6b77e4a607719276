"""What two formats tell of the same files."""

from bothreaders.formats import check_formats, check_same_base, check_two_formats
from bothreaders.machines import FIRST, machine_of, telling_machine, writing_machine
from bothreaders.readers import check_content, read
from bothreaders.searches import file_to, least_common
from bothreaders.steps import NOTHING

# What one reader told ahead of the other one, and the other one ahead of it.
EVEN = ((), ())
# Both have told unlike things: no rest makes this even.
PARTED = None

# Of two beginnings that lead to the same two stands with unlike gaps, each rest
# leaves at least one uneven. So no third gap is needed.
MOST_GAPS = 2


def unlike(one, other):
    """Return the least common file of which two formats tell unlike contents, None if there is none."""
    check_two_formats(one, other)
    check_same_base(one, other)
    return _least_uneven(machine_of(one), machine_of(other), False)


def lost(one, other):
    """Return the least file of the one format that the other one refuses or tells otherwise, None if there is none."""
    check_two_formats(one, other)
    check_same_base(one, other)
    return _least_uneven(machine_of(one), machine_of(other), True)


def safe_pairs(formats):
    """Return the ascending list of the (i, j) with which the format j reads and tells all that the format i reads."""
    check_formats(formats)
    machines = [machine_of(form) for form in formats]
    indexes = range(len(machines))
    pairs = [(i, j) for i in indexes for j in indexes if i != j]
    return [(i, j) for i, j in pairs if _least_uneven(machines[i], machines[j], True) is None]


def two_faced(one, other, content, told):
    """Return the least file of which the one format tells a content, and the other one what is told."""
    check_two_formats(one, other)
    check_content(one, content)
    check_content(other, told)
    check_same_base(one, other)
    return least_common([telling_machine(one, content), telling_machine(other, told)])


def relayed(one, other):
    """Return the content of the least written file that the other format refuses or tells otherwise."""
    check_two_formats(one, other)
    check_same_base(one, other)
    file = _least_uneven(writing_machine(one), machine_of(other), True)
    return None if file is None else read(one, file)


def _least_uneven(one, other, refused_too):
    """Return the least file that two machines read and tell unlike, or that (if refused_too) just the one reads."""
    begun = (FIRST, FIRST, EVEN)
    found = [begun]
    before = {begun: None}
    gaps = {}
    at = 0
    while at < len(found):
        mine, theirs, gap = found[at]
        if one.ends[mine] and _is_witness(other.ends[theirs], gap, refused_too):
            return file_to(before, found[at])
        places = _places_behind(one, other, found[at])
        for sign, place in enumerate(places):
            pair = (place[0], place[1])
            if place not in before and gaps.get(pair, 0) < MOST_GAPS:
                gaps[pair] = gaps.get(pair, 0) + 1
                before[place] = (found[at], sign)
                found.append(place)
        at += 1
    return None


def _is_witness(ends, gap, refused_too):
    # The one machine reads a file that ends here; whether the other one does, is told.
    return gap != EVEN if ends else refused_too


def _places_behind(one, other, place):
    mine, theirs, gap = place
    found = []
    for sign, behind in enumerate(one.moves[mine]):
        parts = (one.tells[mine][sign], other.tells[theirs][sign])
        found.append((behind, other.moves[theirs][sign], _gap_behind(gap, parts)))
    return found


def _gap_behind(gap, parts):
    if gap == PARTED:
        return PARTED
    ahead = [told if part == NOTHING else told + (part,) for told, part in zip(gap, parts)]
    while ahead[0] and ahead[1]:
        if ahead[0][0] != ahead[1][0]:
            return PARTED
        ahead = [told[1:] for told in ahead]
    return (ahead[0], ahead[1])
