"""What the searches through machines rest on."""

import unittest

from bothreaders.machines import FIRST, REFUSED, joint_machine, machine_of, refusing_machine, telling_machine, writing_machine
from bothreaders.readers import write
from bothreaders.steps import all_stands
from tests.reference import A, ALL_REFUSE, ALL_SKIP, B, D, F, all_files, contents, outcome, some_formats, told

SMALL = ((2, 8), (3, 5))


def reads(machine, file):
    stand = FIRST
    for sign in file:
        stand = machine.moves[stand][sign]
    return machine.ends[stand]


class MachinesTest(unittest.TestCase):

    def assert_reads(self, machine, base, longest, is_read):
        """A machine reads just these files; behind a refused sign it stays, and there it reads nothing."""
        for file in all_files(base, longest):
            self.assertIs(reads(machine, file), is_read(file), file)
        self.assertIs(machine.ends[REFUSED], False)
        self.assertEqual(set(machine.moves[REFUSED]), {REFUSED})
        self.assertEqual({len(row) for row in machine.moves}, {base})
        self.assertEqual(len(machine.moves), len(machine.ends))

    def test_formats_and_their_refusals(self):
        for base, longest in SMALL:
            for form in some_formats(base, 20, 71):
                machine = machine_of(form)
                self.assertEqual(len(machine.moves), len(all_stands(form)) + 1)
                self.assert_reads(machine, base, longest, lambda file: outcome(form, file) is None)
                self.assert_reads(refusing_machine(machine), base, longest, lambda file: outcome(form, file) is not None)
                # Twice refused is read.
                twice = refusing_machine(refusing_machine(machine))
                self.assert_reads(twice, base, longest, lambda file: outcome(form, file) is None)

    def test_two_formats(self):
        for base, longest in SMALL:
            some = some_formats(base, 8, 72)
            for one in some:
                for other in some:
                    joint = joint_machine(machine_of(one), machine_of(other))
                    self.assert_reads(joint, base, longest, lambda file: outcome(one, file) is None is outcome(other, file))

    def test_written_files(self):
        for base, longest in SMALL:
            for form in some_formats(base, 20, 73):
                files = {write(form, content) for content in contents(form, longest).values()}
                self.assert_reads(writing_machine(form), base, longest, lambda file: file in files)

    def test_files_of_a_content(self):
        for base, longest in SMALL:
            for form in some_formats(base, 20, 74):
                for content in list(dict.fromkeys(contents(form, longest).values()))[:6]:
                    self.assert_reads(telling_machine(form, content), base, longest, lambda file: told(form, file) == content)

    def test_few_stands_for_a_great_content(self):
        # Another length than the next one of the content is refused at once.
        uses = tuple((k, "check" if k < 10 else "skip") for k in range(16))
        content = tuple((k, tuple((k + at) % 16 for at in range(40))) for k in range(10))
        for width in ("high", "low"):
            machine = telling_machine((16, (None,) * 6, width, 40, uses, "skip"), content)
            self.assertLess(len(machine.moves), 1500)

    def test_each_stand_can_be_completed(self):
        # That refused_by rests on it: from each stand some way leads to an end.
        for form in [A, B, D, F, ALL_SKIP, ALL_REFUSE] + some_formats(2, 30, 75) + some_formats(4, 30, 76):
            machine = machine_of(form)
            hopeful = list(machine.ends)
            for _ in machine.moves:
                hopeful = [good or any(hopeful[behind] for behind in row) for good, row in zip(hopeful, machine.moves)]
            self.assertEqual(hopeful, [False] + [True] * (len(hopeful) - 1))


if __name__ == "__main__":
    unittest.main()
