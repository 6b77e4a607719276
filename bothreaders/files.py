"""All files of a format."""

from bothreaders.errors import InvalidIndex
from bothreaders.formats import check_format, check_length, check_same_base, check_two_formats, is_integer
from bothreaders.machines import FIRST, machine_of, refusing_machine
from bothreaders.readers import along_read
from bothreaders.searches import least_common, rest_counts


def count_files(form, length):
    """Return how many files of a length a format reads."""
    check_format(form)
    check_length(length)
    return rest_counts(machine_of(form), length)[length][FIRST]


def nth_file(form, length, index):
    """Return the file with an index among those of a length that a format reads."""
    check_format(form)
    check_length(length)
    machine = machine_of(form)
    counts = rest_counts(machine, length)
    if not is_integer(index) or not 0 <= index < counts[length][FIRST]:
        raise InvalidIndex()
    signs = []
    stand = FIRST
    for left in range(length - 1, -1, -1):
        sign = _sign_at(counts[left], machine.moves[stand], index)
        index -= _count_below(counts[left], machine.moves[stand], sign)
        stand = machine.moves[stand][sign]
        signs.append(sign)
    return tuple(signs)


def file_index(form, file):
    """Return the index of a file among those of its length that a format reads."""
    along_read(form, file)
    machine = machine_of(form)
    counts = rest_counts(machine, len(file))
    index = 0
    stand = FIRST
    for k, sign in enumerate(file):
        index += _count_below(counts[len(file) - 1 - k], machine.moves[stand], sign)
        stand = machine.moves[stand][sign]
    return index


def alike(one, other):
    """Return whether two formats read the same files."""
    return parting(one, other) is None


def parting(one, other):
    """Return the least file that just one of two formats reads, None if there is none."""
    check_two_formats(one, other)
    check_same_base(one, other)
    mine = machine_of(one)
    theirs = machine_of(other)
    found = [least_common([mine, refusing_machine(theirs)]), least_common([refusing_machine(mine), theirs])]
    return _least_of([file for file in found if file is not None])


def _least_of(files):
    if not files:
        return None
    return min([(len(file), file) for file in files])[1]


def _count_below(counts, row, sign):
    # The files with a less sign here come ahead of those with this one.
    return sum([counts[behind] for behind in row[:sign]])


def _sign_at(counts, row, index):
    sign = 0
    while _count_below(counts, row, sign + 1) <= index:
        sign += 1
    return sign
