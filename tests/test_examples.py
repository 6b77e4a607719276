"""The examples of DOC.md, as they stand there, and those of README.md."""

import doctest
import pathlib
import unittest

README = pathlib.Path(__file__).resolve().parent.parent / "README.md"

SECTION_2 = """
    >>> from bothreaders.formats import is_file, is_format, stand_behind, stands
    >>> a = (4, (1, None), "one", 3, ((0, "stop"), (2, "keep")), "skip")
    >>> b = (4, (None, 2), "one", 2, ((0, "end"), (1, "check"), (3, "keep")), "refuse")
    >>> c = (4, (2,), "one", 0, (), "refuse")
    >>> d = (4, (1, 2), "one", 3, ((0, "stop"), (2, "keep")), "refuse")
    >>> [is_format(a), is_file(a, (0, 4)), stand_behind(b, (1, 2, 1, 2, 3)), stand_behind(b, (1, 2, 2)), stand_behind(a, (1, 3, 3, 0))]
    [True, False, ('body', 'check', 1, 3), None, ('tag',)]
    >>> [stands(c), len(stands(d))]
    [[('head', 0), ('tag',)], 8]
"""

SECTION_3 = """
    >>> from bothreaders.readers import is_content, looked_at, read, refusal, write
    >>> [read(a, (1, 2, 2, 2, 3, 1, 0)), refusal(a, (1, 2, 0, 0)), refusal(a, (1,)), refusal(b, (1, 2, 1, 1, 3, 0)), read(b, (1, 2, 1, 2, 3, 1, 0, 0))]
    [((2, (3, 1)),), (3, 'behind'), (1, 'short'), (5, 'check'), ((1, (3, 1)),)]
    >>> e, f = (2, (), "one", 9, ((0, "keep"),), "refuse"), (4, (), "low", 2, ((1, "check"),), "skip")
    >>> [read(e, ()), is_content(e, ((0, (1, 1)),)), refusal(f, (1, 3, 0)), refusal(f, (1, 2, 1)), read(f, (1, 2, 0, 3, 3, 2, 0, 0, 0))]
    [(), False, (1, 'length'), (2, 'length'), ((1, (3, 3)),)]
    >>> [looked_at(a, (1, 2, 3, 2, 0, 0, 0)), looked_at(b, (1, 2, 0, 3)), write(b, ((1, (3, 1)), (3, ()))), is_content(b, ((3, (1, 1, 1)),))]
    [[0, 2, 3, 6], [1, 2], (0, 2, 1, 2, 3, 1, 0, 3, 0, 0), False]
"""

SECTION_4 = """
    >>> from bothreaders.files import alike, count_files, file_index, nth_file, parting
    >>> [count_files(a, 3), nth_file(a, 3, 2), file_index(a, (1, 3, 0)), count_files(c, 1), count_files(c, 2)]
    [4, (1, 2, 0), 3, 1, 0]
    >>> [alike(a, d), parting(a, d), parting(d, (4, (1, 2), "one", 3, ((0, "stop"), (2, "keep"), (3, "skip")), "refuse"))]
    [False, (1, 0, 0), (1, 2, 3, 0, 0)]
"""

SECTION_5 = """
    >>> from bothreaders.commons import common, completion, count_common, doomed, is_table, refused_by, table
    >>> [common(a, b), common(a, c), table(a, c), is_table(a, c, []), refused_by(a, c), count_common(a, b, 3)]
    [(1, 2, 0), None, [(('head', 0), ('head', 0))], False, 0, 1]
    >>> [doomed([a, b], (1, 2, 2)), doomed([a, b], (1, 2)), doomed([a, c], ()), completion([a, b], (1,)), completion([a], ()), completion([a, b], (0,))]
    [3, None, 0, (2, 0), (1, 0, 0), None]
"""

SECTION_6 = """
    >>> from bothreaders.faces import lost, relayed, safe_pairs, two_faced, unlike
    >>> [unlike(a, b), unlike(a, d), lost(a, b), lost(d, a), safe_pairs([a, b, d]), relayed(a, b), relayed(d, a)]
    [(1, 2, 3, 0, 0), None, (1, 0, 0), None, [(2, 0)], (), None]
    >>> [two_faced(a, b, (), ((3, (2,)),)), two_faced(a, b, ((2, ()),), ())]
    [(1, 2, 3, 1, 2, 0), None]
"""

SECTION_7 = """
    >>> from bothreaders.washing import dressed, dressed_as, hanging, steady, washed
    >>> [washed(a, b, (1, 2, 0)), dressed(a, b, (1, 0, 0)), hanging(a, b, (1, 2, 0)), steady(a, b, (1, 2, 0)), washed(d, a, (1, 2, 0))]
    [(1, 0, 0), (1, 2, 0), [1], False, None]
    >>> [dressed_as(a, b, (1, 0, 3, 0, 0), ((3, ()),)), steady(d, a, (1, 2, 0)), dressed(a, c, (1, 0, 0))]
    [(1, 2, 3, 0, 0), True, None]
"""

SECTION_8 = """
    >>> from bothreaders.washers import count_stubborn, is_washing_table, stubborn, washing_table
    >>> u, v = (3, (1, 2), "one", 1, ((0, "stop"),), "refuse"), (3, (1,), "one", 1, ((0, "end"),), "skip")
    >>> [stubborn(u, v), common(u, v), stubborn(v, u), count_stubborn(v, v, 2), stubborn(v, v)]
    [None, None, None, 1, (1, 0)]
    >>> [washing_table(u, v), is_washing_table(u, v, [])]
    [[(('head', 0), (('head', 0),)), (('head', 1), (('tag',),)), (('over',), (('tag',),)), (('tag',), (('length', 'skip'),))], False]
"""

SECTION_9 = """
    >>> from bothreaders.texts import parse_file, parse_format, show_file, show_format
    >>> [show_format(a), show_format(c), show_file(a, (1, 2, 0)), parse_file(a, "empty")]
    ['base 4; head 1 *; width one; most 3; tags 0 stop, 2 keep; others skip', 'base 4; head 2; width one; most 0; tags; others refuse', '1 2 0', ()]
    >>> parse_format("base 4; head; width low; most 9; tags 1 check; others skip")
    (4, (), 'low', 9, ((1, 'check'),), 'skip')
"""

SECTION_11 = """
    >>> from bothreaders.objects import Pair, Reader
    >>> r = Reader(b)
    >>> [r(1), r(2), r(3), r(1), r(1), r.told, r.stand, r.undo(), r.told, len(r)]
    ['open', 'open', 'open', 'open', 'open', ((3, (1,)),), ('tag',), 1, ((3, ()),), 4]
    >>> p = Pair(a, b)
    >>> [bool(p), (1, 2, 0) in p, p[(1, 2, 3, 0, 0)], p((1,)), p.unlike(), bool(p + 1), (~p).lost(), p == ~p]
    [True, True, ((), ((3, ()),)), (2, 0), (1, 2, 3, 0, 0), True, (0, 2, 0), True]
"""

SECTION_12 = """
    >>> from bothreaders.streams import Stream, StrictCappedStream
    >>> x = Stream((a, b, c))
    >>> [x.put(1), x.put(2), x.put(3), x.completion(), x.tell(), x.undo(), x.left, x.done]
    [2, 2, 2, (0, 0), ['formats 3', 'left 0 1', '1 2 3'], 3, [0, 1], []]
    >>> y = StrictCappedStream((a, b), most=2)
    >>> [y.put(1), y.put(2), y.tell()]
    [2, 2, ['formats 2', 'left 0 1', '1 2', 'strict', 'most 2']]
"""


class ExamplesTest(unittest.TestCase):

    def run_examples(self, text, many):
        examples = doctest.DocTestParser().get_doctest(text, {}, "DOC.md", None, 0)
        told = []
        result = doctest.DocTestRunner().run(examples, out=told.append)
        self.assertEqual((result.failed, result.attempted), (0, many), "".join(told))

    def test_section_2(self):
        self.run_examples(SECTION_2, 7)

    def test_section_3(self):
        # The formats a to d of section 3 are those of section 2.
        self.run_examples(SECTION_2 + SECTION_3, 12)

    def test_section_4(self):
        self.run_examples(SECTION_2 + SECTION_4, 10)

    def test_section_5(self):
        self.run_examples(SECTION_2 + SECTION_5, 10)

    def test_section_6(self):
        self.run_examples(SECTION_2 + SECTION_6, 10)

    def test_section_7(self):
        self.run_examples(SECTION_2 + SECTION_7, 10)

    def test_section_8(self):
        # common is that of section 5.
        self.run_examples(SECTION_2 + SECTION_5 + SECTION_8, 14)

    def test_section_9(self):
        self.run_examples(SECTION_2 + SECTION_9, 10)

    def test_section_11(self):
        self.run_examples(SECTION_2 + SECTION_11, 12)

    def test_section_12(self):
        self.run_examples(SECTION_2 + SECTION_12, 12)

    def test_all_sections(self):
        every = (SECTION_2, SECTION_3, SECTION_4, SECTION_5, SECTION_6, SECTION_7, SECTION_8, SECTION_9, SECTION_11, SECTION_12)
        self.run_examples("".join(every), 41)

    def test_readme(self):
        self.run_examples(README.read_text(encoding="utf-8"), 49)


if __name__ == "__main__":
    unittest.main()
