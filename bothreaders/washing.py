"""Washing a file: changing it where its reader does not look.

The one format reads the file; the other one is asked about the variations of
it, which differ from it at indexes alone at which the one does not look.
"""

from bothreaders.formats import check_file, check_same_base, check_two_formats
from bothreaders.machines import FIRST, machine_of, refusing_machine, telling_machine
from bothreaders.readers import along_read, check_content, content_or_none
from bothreaders.steps import BASE, looks


def washed(one, other, file):
    """Return the nearest variation that the other format refuses, None if it reads all."""
    _check_arguments(one, other, file)
    free = _free_indexes(one, other, file)
    return _nearest(refusing_machine(machine_of(other)), file, free)


def dressed(one, other, file):
    """Return the nearest variation that the other format reads, None if it reads none."""
    _check_arguments(one, other, file)
    free = _free_indexes(one, other, file)
    return _nearest(machine_of(other), file, free)


def dressed_as(one, other, file, content):
    """Return the nearest variation of which the other format tells a content, None if there is none."""
    _check_arguments(one, other, file)
    check_content(other, content)
    free = _free_indexes(one, other, file)
    return _nearest(telling_machine(other, content), file, free)


def steady(one, other, file):
    """Return whether the other format reads all variations and tells the same content of all."""
    _check_arguments(one, other, file)
    free = _free_indexes(one, other, file)
    content = content_or_none(other, file)
    if content is None:
        return False
    return _nearest(refusing_machine(telling_machine(other, content)), file, free) is None


def hanging(one, other, file):
    """Return the ascending list of the indexes at which another sign changes what just the other format tells."""
    _check_arguments(one, other, file)
    free = _free_indexes(one, other, file)
    content = content_or_none(other, file)
    return [k for k in free if _hangs(other, file, k, content)]


def _check_arguments(one, other, file):
    check_two_formats(one, other)
    check_file(one, file)


def _free_indexes(one, other, file):
    """Return the list of the indexes at which the one format does not look, behind the last checks."""
    check_same_base(one, other)
    along = along_read(one, file)
    return [k for k in range(len(file)) if not looks(one, along[k])]


def _hangs(form, file, at, content):
    varied = [file[:at] + (sign,) + file[at + 1:] for sign in range(form[BASE])]
    return any([content_or_none(form, other) != content for other in varied])


def _nearest(machine, file, free):
    """Return the nearest variation that a machine reads, None if it reads none."""
    prices = [_prices_at(machine, file, free, k) for k in range(len(file))]
    costs = _costs(machine, prices)
    if costs[0][FIRST] > len(file):
        return None
    varied = []
    stand = FIRST
    for k in range(len(file)):
        row = machine.moves[stand]
        sums = [price + costs[k + 1][behind] for price, behind in zip(prices[k], row)]
        # Of the signs that are equally good, index takes the least one.
        sign = sums.index(min(sums))
        varied.append(sign)
        stand = row[sign]
    return tuple(varied)


def _prices_at(machine, file, free, at):
    # What a sign at an index costs: nothing, a change, or, where the reader
    # looks, more than all changes together.
    change = 1 if at in free else len(file) + 1
    return [0 if sign == file[at] else change for sign in range(len(machine.moves[FIRST]))]


def _costs(machine, prices):
    """Return, for each index and behind the last one, the row of the least costs of the rest from each stand on."""
    costs = [[0 if end else len(prices) + 1 for end in machine.ends]]
    for row in prices[::-1]:
        last = costs[-1]
        costs.append([_least_cost(row, last, behind) for behind in machine.moves])
    return costs[::-1]


def _least_cost(prices, costs, behind):
    return min([price + costs[stand] for price, stand in zip(prices, behind)])
