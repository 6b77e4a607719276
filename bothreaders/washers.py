"""All files of a format that cannot be washed, or a table that shows that each one can be.

All files are gone through by the stand of the one format and the group of the
stands of the other one that the variations of a beginning come to. Behind a
sign at which a variation is refused, no file is stubborn.

A place is the number of a stand of the one, and the ascending tuple of the
numbers of the stands of such a group.
"""

from bothreaders.errors import HasStubborn
from bothreaders.formats import check_length, check_same_base, check_two_formats, is_like_stand
from bothreaders.machines import FIRST, REFUSED, Machine, machine_of, numbered_rows
from bothreaders.searches import least_common, rest_counts
from bothreaders.steps import all_stands, looks


class Washer:
    """The machines of two formats, and whether the reader of the one does not look at a sign, for each stand."""

    def __init__(self, one, other):
        self.mine = machine_of(one)
        self.theirs = machine_of(other)
        self.free = [False] + [not looks(one, stand) for stand in all_stands(one)]


def stubborn(one, other):
    """Return the least file of which the other format reads all variations, None if there is none."""
    check_two_formats(one, other)
    check_same_base(one, other)
    washer = Washer(one, other)
    return _least_stubborn(washer, _rows_along(washer, False))


def count_stubborn(one, other, length):
    """Return how many files of a length there are of which the other format reads all variations."""
    check_two_formats(one, other)
    check_length(length)
    check_same_base(one, other)
    washer = Washer(one, other)
    machine = _stubborn_machine(washer, _rows_along(washer, True))
    return rest_counts(machine, length)[length][FIRST]


def washing_table(one, other):
    """Return the ascending list of the fewest (stand, group) that show that each file can be washed."""
    check_two_formats(one, other)
    check_same_base(one, other)
    washer = Washer(one, other)
    rows = _rows_along(washer, False)
    found = _least_stubborn(washer, rows)
    if found is not None:
        raise HasStubborn(found)
    mine = all_stands(one)
    theirs = all_stands(other)
    return sorted([(mine[stand - FIRST], _stands_of(theirs, group)) for stand, group in rows])


def is_washing_table(one, other, value):
    """Return whether any value is a washing table of two formats."""
    check_two_formats(one, other)
    check_same_base(one, other)
    if not isinstance(value, list) or not all([_is_like_row(row) for row in value]):
        return False
    mine = _numbers_of(one)
    theirs = _numbers_of(other)
    if not all([_is_of_stands(mine, theirs, row) for row in value]):
        return False
    washer = Washer(one, other)
    places = [(mine[stand], tuple(sorted([theirs[name] for name in group]))) for stand, group in value]
    return _is_closed(washer, places)


def _rows_along(washer, beyond):
    """Return the dict of all places that are come to, the first one first, with the row of the places behind each.

    The places are found in the order of the least files that come to them.
    Unless beyond is set, the first one at which a stubborn file ends is the
    last one.
    """
    found = [(FIRST, (FIRST,))]
    rows = {}
    seen = set(found)
    while len(rows) < len(found):
        place = found[len(rows)]
        rows[place] = _places_behind(washer, place)
        if _is_stubborn_at(washer, place) and not beyond:
            break
        for behind in rows[place]:
            if behind is not None and behind not in seen:
                seen.add(behind)
                found.append(behind)
    return rows


def _places_behind(washer, place):
    """Return the row of the places behind each sign, None where the one refuses it, or the other one a variation."""
    stand, group = place
    rows = [washer.theirs.moves[name] for name in group]
    groups = list(zip(*rows))
    if washer.free[stand]:
        # Any sign may stand here in a variation, so all signs lead to one group.
        groups = [[number for row in rows for number in row]] * len(groups)
    found = []
    for behind, reached in zip(washer.mine.moves[stand], groups):
        refused = behind == REFUSED or REFUSED in reached
        found.append(None if refused else (behind, tuple(sorted(set(reached)))))
    return found


def _is_stubborn_at(washer, place):
    """Return whether a file that comes to a place is stubborn if it ends there."""
    stand, group = place
    return washer.mine.ends[stand] and all([washer.theirs.ends[name] for name in group])


def _least_stubborn(washer, rows):
    return least_common([_stubborn_machine(washer, rows)])


def _stubborn_machine(washer, rows):
    """Return the machine of the stubborn files that come to these places alone."""
    places = list(rows)
    ends = [False] + [_is_stubborn_at(washer, place) for place in places]
    return Machine(numbered_rows(places, list(rows.values())), ends, [])


def _stands_of(names, group):
    return tuple(sorted([names[number - FIRST] for number in group]))


def _numbers_of(form):
    names = all_stands(form)
    return {names[k]: FIRST + k for k in range(len(names))}


def _is_like_row(value):
    if not isinstance(value, tuple) or len(value) != 2 or not is_like_stand(value[0]):
        return False
    group = value[1]
    return isinstance(group, tuple) and len(group) > 0 and all([is_like_stand(stand) for stand in group])


def _is_of_stands(mine, theirs, row):
    stand, group = row
    if stand not in mine or not all([name in theirs for name in group]):
        return False
    return all([group[k - 1] < group[k] for k in range(1, len(group))])


def _is_closed(washer, places):
    """Return whether the first place is found, all places behind are, and no stubborn file ends."""
    known = set(places)
    if (FIRST, (FIRST,)) not in known:
        return False
    for place in places:
        row = _places_behind(washer, place)
        if _is_stubborn_at(washer, place) or not all([behind is None or behind in known for behind in row]):
            return False
    return True
