"""The examples of the document, as they stand there."""

import doctest
import unittest

from askable.ask import answers, languages, rules, trees
from askable.base import databases, tables

VALUES = '''
>>> PATH = Database(("a", "b", "c"), edge=Table(2, ("a", "b"), ("b", "a"), ("b", "c"), ("c", "b")))
>>> POINT = Database(("a", "b"), at=Table(2, ("a", "a")))
>>> THERE, BACK = Database(("a", "b"), to=Table(2, ("a", "b"))), Database(("a", "b"), to=Table(2, ("a", "b"), ("b", "a")))
'''
STAGE_1 = '''
>>> [PATH["edge"].picked(1, 1).rows, sign_table(POINT, ("out", "at")).rows, ("unlike",) in PATH, str(PATH)]
[(('a', 'a'), ('b', 'b'), ('c', 'c')), (('a', 'b'), ('b', 'a'), ('b', 'b')), False, 'database of 3 values, 1 tables']
>>> [len(whole_table(PATH.domain, 2) - sign_table(PATH, ("unlike",))), PATH.renamed({"a": "c", "b": "b", "c": "a"}) == PATH]
[3, True]
'''
STAGE_2 = '''
>>> TIP = Rule(("x",), ("in", "edge", ("x", "y")), ("in", "edge", ("y", "z")), ("unlike", "z", "x"))
>>> [TIP.atoms[2], TIP.hidden, Query(1, TIP).language, is_within("flat one not", "deep one not"), joined("flat many plain", "deep one not")]
[('unlike', 'x', 'z'), ('y', 'z'), 'deep one unlike', True, 'deep many not']
>>> [signs_of(THERE, "flat one not"), len(LANGUAGES), LANGUAGES[3], Query(0).language]
[(('in', 'to'), ('out', 'to'), ('unlike',)), 12, 'flat many plain', 'flat many plain']
'''
STAGE_3 = '''
>>> [answers(Query(1, TIP), PATH).rows, list(ways(TIP, PATH, ("a",))), way_of(Query(1, TIP), PATH, ("b",))]
[(('a',), ('c',)), [{'x': 'a', 'y': 'b', 'z': 'c'}], None]
>>> [answers(Query(2, Rule(("x", "x"))), POINT).rows, len(answers(Query(0, Rule(())), POINT)), answers(Query(1), POINT).rows]
[(('a', 'a'), ('b', 'b')), 1, ()]
'''
STAGE_4 = '''
>>> inner = ("choose", "z", (("broken", TIP.atoms[1]), ("broken", TIP.atoms[2]), ("broken", TIP.atoms[1])))
>>> tree = ("choose", "x", (("fine",), ("choose", "y", (inner, ("broken", TIP.atoms[0]), inner)), ("fine",)))
>>> [is_closed_tree(TIP, PATH, (("b",),), tree), size_of(tree), closed_tree(TIP, PATH, (("a",),)), is_closed_tree(TIP, PATH, (), ("fine",))]
[True, 13, None, True]
>>> [row_paper(Query(1, TIP), PATH, ("a",)), row_paper(Query(1, TIP), PATH, ("b",))[0], height_of(tree)]
[('comes', (0, {'x': 'a', 'y': 'b', 'z': 'c'})), 'stays', 3]
'''


class DocumentTest(unittest.TestCase):
    def test_examples(self):
        names = {}
        for module in (tables, databases, languages, rules, answers, trees):
            names.update(vars(module))
        text = VALUES + STAGE_1 + STAGE_2 + STAGE_3 + STAGE_4
        told = doctest.DocTestParser().get_doctest(text, names, "the document", None, 0)
        printed = []
        result = doctest.DocTestRunner().run(told, out=printed.append)
        self.assertEqual((result.failed, result.attempted), (0, 14), "".join(printed))


if __name__ == "__main__":
    unittest.main()
