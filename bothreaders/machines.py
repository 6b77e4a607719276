"""Machines: readers whose stands are numbers, for going through all files at once.

A machine's stands are numbered from FIRST on, which is the stand at the
beginning of a file. REFUSED is the stand behind a sign that is refused: every
further sign leads to it again, and no file that ends there is read.
"""

from bothreaders.steps import BASE, HEAD, NOTHING, ROOM, TAG, TOLD_USES
from bothreaders.steps import all_stands, end_tag, ends_well, first_stand, next_stand, parts_of, told_part, use_of

REFUSED = 0
FIRST = 1


class Machine:
    """A reader: for each stand the row of the stands behind each sign, and whether a file may end there.

    For the machines of formats there are also rows of the parts that are told
    at each sign; the other ones are only asked what they read.
    """

    def __init__(self, moves, ends, tells):
        self.moves = moves
        self.ends = ends
        self.tells = tells


def machine_of(form):
    """Return the machine that reads and tells as the reader of a format does.

    Its stands are those of all_stands, in the same order, from FIRST on.
    """
    names = all_stands(form)
    signs = range(form[BASE])
    moves = numbered_rows(names, [[next_stand(form, name, sign) for sign in signs] for name in names])
    ends = [False] + [ends_well(form, name) for name in names]
    tells = [[NOTHING] * form[BASE]] + [[told_part(form, name, sign) for sign in signs] for name in names]
    return Machine(moves, ends, tells)


def writing_machine(form):
    """Return the machine of the least files of all contents: those that are written."""
    machine = machine_of(form)
    rows = [machine.moves[REFUSED]]
    for name, row in zip(all_stands(form), machine.moves[FIRST:]):
        rows.append([behind if _is_written(form, name, sign) else REFUSED for sign, behind in enumerate(row)])
    return Machine(rows, machine.ends, machine.tells)


def telling_machine(form, content):
    """Return the machine of the files of which a format tells a content."""
    parts = parts_of(form, content)
    lefts = _lefts_of(content)
    names = [(first_stand(form), 0)]
    seen = set(names)
    rows = []
    while len(rows) < len(names):
        row = [_next_telling(form, parts, lefts, names[len(rows)], sign) for sign in range(form[BASE])]
        for name in row:
            if name is not None and name not in seen:
                seen.add(name)
                names.append(name)
        rows.append(row)
    ends = [False] + [told == len(parts) and ends_well(form, stand) for stand, told in names]
    return Machine(numbered_rows(names, rows), ends, [])


def refusing_machine(machine):
    """Return the machine of the files that another machine does not read."""
    # Behind a sign that is refused this machine reads on, at a stand of its own.
    beyond = len(machine.moves)
    refused = machine.moves[REFUSED]
    rows = [[beyond if behind == REFUSED else behind for behind in row] for row in machine.moves[FIRST:]]
    ends = [False] + [not end for end in machine.ends[FIRST:]] + [True]
    return Machine([refused] + rows + [[beyond] * len(refused)], ends, [])


def stands_behind(machines, stands):
    """Return the list, for each sign, of the tuple of the stands behind it."""
    rows = [machine.moves[stand] for machine, stand in zip(machines, stands)]
    return list(zip(*rows))


def pairs_along(one, other):
    """Return the list of the pairs of stands behind beginnings that two machines take, the first pair first."""
    pairs = [(FIRST, FIRST)]
    seen = set(pairs)
    at = 0
    while at < len(pairs):
        row = stands_behind([one, other], pairs[at])
        for pair in row:
            if REFUSED not in pair and pair not in seen:
                seen.add(pair)
                pairs.append(pair)
        at += 1
    return pairs


def joint_machine(one, other):
    """Return the machine of the files that two machines both read."""
    pairs = pairs_along(one, other)
    moves = numbered_rows(pairs, [stands_behind([one, other], pair) for pair in pairs])
    ends = [False] + [one.ends[mine] and other.ends[theirs] for mine, theirs in pairs]
    return Machine(moves, ends, [])


def numbered_rows(names, rows):
    """Return the moves of a machine, told by the names of its stands and the row of the names behind each one.

    What is no name of a stand, is refused.
    """
    numbers = {names[k]: FIRST + k for k in range(len(names))}
    refused = [REFUSED] * len(rows[0])
    return [refused] + [[numbers.get(name, REFUSED) for name in row] for row in rows]


def hopeful_machine(machines):
    """Return the machine of the files that all machines read; it refuses each sign behind which there is none."""
    found = _without_doomed(machines[0])
    for machine in machines[1:]:
        # What is doomed for some of the machines need not be gone through with the other ones.
        found = _without_doomed(joint_machine(found, machine))
    return found


def _without_doomed(machine):
    hopeful = _hopeful_stands(machine)
    rows = [[behind if hopeful[behind] else REFUSED for behind in row] for row in machine.moves]
    return Machine(rows, machine.ends, [])


def _hopeful_stands(machine):
    """Return, for each stand, whether some rest is read from it on."""
    ahead = [[] for _ in machine.moves]
    for stand, row in enumerate(machine.moves):
        for behind in row:
            ahead[behind].append(stand)
    hopeful = list(machine.ends)
    waiting = [stand for stand, end in enumerate(machine.ends) if end]
    while waiting:
        behind = waiting.pop()
        for stand in ahead[behind]:
            if not hopeful[stand]:
                hopeful[stand] = True
                waiting.append(stand)
    return hopeful


def _is_written(form, stand, sign):
    # Nothing that is not told stands in a least file, but for marks and one end.
    if stand[0] == "head":
        return form[HEAD][stand[1]] is not None or sign == 0
    if stand == TAG:
        return use_of(form, sign) in TOLD_USES or sign == end_tag(form)
    return stand != ROOM


def _lefts_of(content):
    # So many signs of a body are left, behind each number of parts that were told.
    lefts = [0]
    for _, body in content:
        lefts.extend(list(range(len(body), -1, -1)))
    return lefts


def _next_telling(form, parts, lefts, name, sign):
    # A name is a stand with the number of the parts that were told. None: the
    # sign is refused, or another content would be told.
    stand, told = name
    behind = next_stand(form, stand, sign)
    if behind is None:
        return None
    part = told_part(form, stand, sign)
    if part != NOTHING:
        if told == len(parts) or parts[told] != part:
            return None
        told += 1
    # At a length another one is refused at once, not only where its body ends.
    if behind[0] not in ("length", "second") and _told_left(behind) != lefts[told]:
        return None
    return (behind, told)


def _told_left(stand):
    if stand[0] == "body" and stand[1] in TOLD_USES:
        return stand[2]
    return 0
