"""Files that two formats, or some formats, read in common."""

from bothreaders.errors import HasCommon, InvalidFile
from bothreaders.formats import are_signs, check_formats, check_length, check_same_base, check_two_formats
from bothreaders.formats import is_like_stand
from bothreaders.machines import FIRST, joint_machine, machine_of, pairs_along
from bothreaders.searches import joint_stands, last_hope, least_common, least_file, rest_counts
from bothreaders.steps import BASE, all_stands, ends_well, first_stand, next_stand


def common(one, other):
    """Return the least file that both formats read, None if there is none."""
    check_two_formats(one, other)
    check_same_base(one, other)
    return least_common([machine_of(one), machine_of(other)])


def count_common(one, other, length):
    """Return how many files of a length both formats read."""
    check_two_formats(one, other)
    check_length(length)
    check_same_base(one, other)
    joint = joint_machine(machine_of(one), machine_of(other))
    return rest_counts(joint, length)[length][FIRST]


def table(one, other):
    """Return the ascending list of the fewest pairs of stands that show that there is no common file."""
    _check_no_common(one, other)
    mine = all_stands(one)
    theirs = all_stands(other)
    pairs = pairs_along(machine_of(one), machine_of(other))
    return sorted([(mine[left - FIRST], theirs[right - FIRST]) for left, right in pairs])


def is_table(one, other, value):
    """Return whether any value is a table of two formats."""
    check_two_formats(one, other)
    check_same_base(one, other)
    if not isinstance(value, list) or not all([_is_like_pair(pair) for pair in value]):
        return False
    mine = set(all_stands(one))
    theirs = set(all_stands(other))
    pairs = set(value)
    if (first_stand(one), first_stand(other)) not in pairs:
        return False
    for left, right in value:
        if left not in mine or right not in theirs:
            return False
        if ends_well(one, left) and ends_well(other, right):
            return False
        if not all([pair in pairs for pair in _pairs_behind(one, other, left, right)]):
            return False
    return True


def doomed(formats, file):
    """Return the least length of a doomed beginning of a file, None if there is none."""
    check_formats(formats)
    _check_signs(formats, file)
    machines = [machine_of(form) for form in formats]
    last = last_hope(machines, joint_stands(machines, file))
    if last is None:
        return 0
    return None if last == len(file) else last + 1


def completion(formats, beginning):
    """Return the least file that makes a beginning a file that all formats read, None if there is none."""
    check_formats(formats)
    _check_signs(formats, beginning)
    machines = [machine_of(form) for form in formats]
    return least_file(machines, joint_stands(machines, beginning)[-1])


def refused_by(one, other):
    """Return the greatest index at which the other format refuses a file of the one, None if there is none."""
    _check_no_common(one, other)
    # Each stand can be completed to a file that is read. So each beginning
    # that both formats take goes on to an index at which the other one refuses.
    return _longest_way(joint_machine(machine_of(one), machine_of(other)))


def _check_no_common(one, other):
    found = common(one, other)
    if found is not None:
        raise HasCommon(found)


def _check_signs(formats, file):
    if not are_signs(file, formats[0][BASE]):
        raise InvalidFile()


def _is_like_pair(value):
    return isinstance(value, tuple) and len(value) == 2 and all([is_like_stand(stand) for stand in value])


def _pairs_behind(one, other, left, right):
    found = []
    for sign in range(one[BASE]):
        pair = (next_stand(one, left, sign), next_stand(other, right, sign))
        if None not in pair:
            found.append(pair)
    return found


def _longest_way(machine):
    """Return the number of signs of the longest way from the first stand on, None if there is no longest one."""
    ways_to = [0] * len(machine.moves)
    for row in machine.moves:
        for behind in row:
            ways_to[behind] += 1
    longest = [0] * len(machine.moves)
    # A stand comes to its turn when all stands ahead of it have had theirs;
    # those of a circle never do, nor does REFUSED, which leads to itself.
    turns = [FIRST] if ways_to[FIRST] == 0 else []
    at = 0
    while at < len(turns):
        stand = turns[at]
        for behind in machine.moves[stand]:
            longest[behind] = max(longest[behind], longest[stand] + 1)
            ways_to[behind] -= 1
            if ways_to[behind] == 0:
                turns.append(behind)
        at += 1
    if len(turns) < len(machine.moves) - 1:
        return None
    return max([longest[reached] for reached in turns])
