"""The examples of DOC.md, as they stand there, and those of README.md."""

import doctest
import pathlib
import unittest

README = pathlib.Path(__file__).resolve().parent.parent / "README.md"

SECTION_2 = """
    >>> from bothreaders.formats import is_file, is_format, stand_behind, stands
    >>> a = (4, (1, None), "one", 3, ((0, "stop"), (2, "keep")), "skip")
    >>> b = (4, (None, 2), "one", 2, ((0, "end"), (1, "check"), (3, "keep")), "refuse")
    >>> c = (4, (2,), "one", 0, (), "refuse")
    >>> d = (4, (1, 2), "one", 3, ((0, "stop"), (2, "keep")), "refuse")
    >>> [is_format(a), is_file(a, (0, 4)), stand_behind(b, (1, 2, 1, 2, 3)), stand_behind(b, (1, 2, 2)), stand_behind(a, (1, 3, 3, 0))]
    [True, False, ('body', 'check', 1, 3), None, ('tag',)]
    >>> [stands(c), len(stands(d))]
    [[('head', 0), ('tag',)], 8]
"""

SECTION_3 = """
    >>> from bothreaders.readers import is_content, looked_at, read, refusal, write
    >>> [read(a, (1, 2, 2, 2, 3, 1, 0)), refusal(a, (1, 2, 0, 0)), refusal(a, (1,)), refusal(b, (1, 2, 1, 1, 3, 0)), read(b, (1, 2, 1, 2, 3, 1, 0, 0))]
    [((2, (3, 1)),), (3, 'behind'), (1, 'short'), (5, 'check'), ((1, (3, 1)),)]
    >>> e, f = (2, (), "one", 9, ((0, "keep"),), "refuse"), (4, (), "low", 2, ((1, "check"),), "skip")
    >>> [read(e, ()), is_content(e, ((0, (1, 1)),)), refusal(f, (1, 3, 0)), refusal(f, (1, 2, 1)), read(f, (1, 2, 0, 3, 3, 2, 0, 0, 0))]
    [(), False, (1, 'length'), (2, 'length'), ((1, (3, 3)),)]
    >>> [looked_at(a, (1, 2, 3, 2, 0, 0, 0)), looked_at(b, (1, 2, 0, 3)), write(b, ((1, (3, 1)), (3, ()))), is_content(b, ((3, (1, 1, 1)),))]
    [[0, 2, 3, 6], [1, 2], (0, 2, 1, 2, 3, 1, 0, 3, 0, 0), False]
"""

SECTION_4 = """
    >>> from bothreaders.files import alike, count_files, file_index, nth_file, parting
    >>> [count_files(a, 3), nth_file(a, 3, 2), file_index(a, (1, 3, 0)), count_files(c, 1), count_files(c, 2)]
    [4, (1, 2, 0), 3, 1, 0]
    >>> [alike(a, d), parting(a, d), parting(d, (4, (1, 2), "one", 3, ((0, "stop"), (2, "keep"), (3, "skip")), "refuse"))]
    [False, (1, 0, 0), (1, 2, 3, 0, 0)]
"""

SECTION_5 = """
    >>> from bothreaders.commons import common, completion, count_common, doomed, is_table, refused_by, table
    >>> [common(a, b), common(a, c), table(a, c), is_table(a, c, []), refused_by(a, c), count_common(a, b, 3)]
    [(1, 2, 0), None, [(('head', 0), ('head', 0))], False, 0, 1]
    >>> [doomed([a, b], (1, 2, 2)), doomed([a, b], (1, 2)), doomed([a, c], ()), completion([a, b], (1,)), completion([a], ()), completion([a, b], (0,))]
    [3, None, 0, (2, 0), (1, 0, 0), None]
"""

SECTION_6 = """
    >>> from bothreaders.faces import lost, relayed, safe_pairs, two_faced, unlike
    >>> [unlike(a, b), unlike(a, d), lost(a, b), lost(d, a), safe_pairs([a, b, d]), relayed(a, b), relayed(d, a)]
    [(1, 2, 3, 0, 0), None, (1, 0, 0), None, [(2, 0)], (), None]
    >>> [two_faced(a, b, (), ((3, (2,)),)), two_faced(a, b, ((2, ()),), ())]
    [(1, 2, 3, 1, 2, 0), None]
"""

SECTION_7 = """
    >>> from bothreaders.washing import dressed, dressed_as, hanging, steady, washed
    >>> [washed(a, b, (1, 2, 0)), dressed(a, b, (1, 0, 0)), hanging(a, b, (1, 2, 0)), steady(a, b, (1, 2, 0)), washed(d, a, (1, 2, 0))]
    [(1, 0, 0), (1, 2, 0), [1], False, None]
    >>> [dressed_as(a, b, (1, 0, 3, 0, 0), ((3, ()),)), steady(d, a, (1, 2, 0)), dressed(a, c, (1, 0, 0))]
    [(1, 2, 3, 0, 0), True, None]
"""


class ExamplesTest(unittest.TestCase):

    def run_examples(self, text, many):
        examples = doctest.DocTestParser().get_doctest(text, {}, "DOC.md", None, 0)
        told = []
        result = doctest.DocTestRunner().run(examples, out=told.append)
        self.assertEqual((result.failed, result.attempted), (0, many), "".join(told))

    def test_section_2(self):
        self.run_examples(SECTION_2, 7)

    def test_section_3(self):
        # The formats a to d of section 3 are those of section 2.
        self.run_examples(SECTION_2 + SECTION_3, 12)

    def test_section_4(self):
        self.run_examples(SECTION_2 + SECTION_4, 10)

    def test_section_5(self):
        self.run_examples(SECTION_2 + SECTION_5, 10)

    def test_section_6(self):
        self.run_examples(SECTION_2 + SECTION_6, 10)

    def test_section_7(self):
        self.run_examples(SECTION_2 + SECTION_7, 10)

    def test_readme(self):
        self.run_examples(README.read_text(encoding="utf-8"), 28)


if __name__ == "__main__":
    unittest.main()
