"""Searches for files through machines."""

from bothreaders.machines import FIRST, REFUSED, stands_behind


def least_file(machines, begun):
    """Return the least file that all machines read on from these stands, None if there is none."""
    found = [begun]
    before = {begun: None}
    at = 0
    while at < len(found):
        stands = found[at]
        if all_end(machines, stands):
            return file_to(before, stands)
        row = stands_behind(machines, stands)
        for sign, behind in enumerate(row):
            if REFUSED not in behind and behind not in before:
                before[behind] = (stands, sign)
                found.append(behind)
        at += 1
    return None


def least_common(machines):
    """Return the least file that all machines read, None if there is none."""
    return least_file(machines, first_stands(machines))


def last_hope(machines, along):
    """Return the last index of these stands from which all machines may come to an end, None if there is none.

    What was gone through from a later index without an end need not be gone
    through again from an earlier one.
    """
    seen = set()
    for k in range(len(along) - 1, -1, -1):
        waiting = [along[k]]
        while waiting:
            stands = waiting.pop()
            if stands not in seen:
                seen.add(stands)
                if all_end(machines, stands):
                    return k
                row = stands_behind(machines, stands)
                waiting.extend([behind for behind in row if REFUSED not in behind])
    return None


def joint_stands(machines, file):
    """Return the list of the stands of the machines ahead of each sign of a file and behind the last one."""
    along = [first_stands(machines)]
    for sign in file:
        along.append(stands_behind(machines, along[-1])[sign])
    return along


def first_stands(machines):
    """Return the tuple of the stands of the machines at the beginning of a file."""
    return (FIRST,) * len(machines)


def all_end(machines, stands):
    """Return whether all machines read a file that ends at these stands."""
    return all([machine.ends[stand] for machine, stand in zip(machines, stands)])


def file_to(before, place):
    """Return the file by which a place was found first, told by the place before each one and the sign."""
    signs = []
    while before[place] is not None:
        place, sign = before[place]
        signs.append(sign)
    return tuple(signs[::-1])


def rest_counts(machine, length):
    """Return how many rests are read from each stand on: a row for each number of signs, from 0 to a length."""
    counts = [[1 if end else 0 for end in machine.ends]]
    for left in range(length):
        counts.append([sum([counts[left][behind] for behind in row]) for row in machine.moves])
    return counts


def read_the_same(one, other):
    """Return whether two machines, perhaps of unlike bases, read the same files.

    Stands from which the same rests have to be read are put into one class,
    from the first two on. Each class has a leader, so this ends soon.
    """
    signs = max(len(one.moves[FIRST]), len(other.moves[FIRST]))
    shift = len(one.moves)
    rows = _widened(one.moves, signs, 0) + _widened(other.moves, signs, shift)
    ends = one.ends + other.ends
    leaders = list(range(len(rows)))
    waiting = [(FIRST, shift + FIRST)]
    while waiting:
        pair = waiting.pop()
        left = _leader_of(leaders, pair[0])
        right = _leader_of(leaders, pair[1])
        if ends[left] != ends[right]:
            return False
        if left != right:
            leaders[left] = right
            waiting.extend(list(zip(rows[left], rows[right])))
    return True


def _leader_of(leaders, stand):
    while leaders[stand] != stand:
        stand = leaders[stand]
    return stand


def _widened(rows, signs, shift):
    # The signs that only the other machine has are refused.
    refused = [shift + REFUSED]
    return [[shift + behind for behind in row] + refused * (signs - len(row)) for row in rows]
