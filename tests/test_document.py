"""The examples of the document, as they stand there."""

import doctest
import unittest

from askable.ask import answers, languages, rules, trees
from askable.base import databases, tables
from askable.keep import flat, keepers, maps, places
from askable.wish import examples, ladder, papers

VALUES = '''
>>> PATH = Database(("a", "b", "c"), edge=Table(2, ("a", "b"), ("b", "a"), ("b", "c"), ("c", "b")))
>>> ENDS = Examples(1, (PATH, (("a",), ("c",)), None))
>>> POINT = Database(("a", "b"), at=Table(2, ("a", "a")))
>>> REST = Examples(2, (POINT, (("a", "b"), ("b", "a"), ("b", "b")), None))
>>> THERE, BACK = Database(("a", "b"), to=Table(2, ("a", "b"))), Database(("a", "b"), to=Table(2, ("a", "b"), ("b", "a")))
>>> BEGIN = Examples(1, (THERE, (("a",),), ()), (BACK, (), (("a",),)))
'''
STAGE_1 = '''
>>> [PATH["edge"].picked(1, 1).rows, sign_table(POINT, ("out", "at")).rows, ("unlike",) in PATH, str(PATH)]
[(('a', 'a'), ('b', 'b'), ('c', 'c')), (('a', 'b'), ('b', 'a'), ('b', 'b')), False, 'database of 3 values, 1 tables']
>>> [len(whole_table(PATH.domain, 2) - sign_table(PATH, ("unlike",))), PATH.renamed({"a": "c", "b": "b", "c": "a"}) == PATH]
[3, True]
'''
STAGE_2 = '''
>>> TIP = Rule(("x",), ("in", "edge", ("x", "y")), ("in", "edge", ("y", "z")), ("unlike", "z", "x"))
>>> [TIP.atoms[2], TIP.hidden, Query(1, TIP).language, is_within("flat one not", "deep one not"), joined("flat many plain", "deep one not")]
[('unlike', 'x', 'z'), ('y', 'z'), 'deep one unlike', True, 'deep many not']
>>> [signs_of(THERE, "flat one not"), len(LANGUAGES), LANGUAGES[3], Query(0).language]
[(('in', 'to'), ('out', 'to'), ('unlike',)), 12, 'flat many plain', 'flat many plain']
'''
STAGE_3 = '''
>>> [answers(Query(1, TIP), PATH).rows, list(ways(TIP, PATH, ("a",))), way_of(Query(1, TIP), PATH, ("b",))]
[(('a',), ('c',)), [{'x': 'a', 'y': 'b', 'z': 'c'}], None]
>>> [answers(Query(2, Rule(("x", "x"))), POINT).rows, len(answers(Query(0, Rule(())), POINT)), answers(Query(1), POINT).rows]
[(('a', 'a'), ('b', 'b')), 1, ()]
'''
STAGE_4 = '''
>>> inner = ("choose", "z", (("broken", TIP.atoms[1]), ("broken", TIP.atoms[2]), ("broken", TIP.atoms[1])))
>>> tree = ("choose", "x", (("fine",), ("choose", "y", (inner, ("broken", TIP.atoms[0]), inner)), ("fine",)))
>>> [is_closed_tree(TIP, PATH, (("b",),), tree), size_of(tree), closed_tree(TIP, PATH, (("a",),)), is_closed_tree(TIP, PATH, (), ("fine",))]
[True, 13, None, True]
>>> [row_paper(Query(1, TIP), PATH, ("a",)), row_paper(Query(1, TIP), PATH, ("b",))[0], height_of(tree)]
[('comes', (0, {'x': 'a', 'y': 'b', 'z': 'c'})), 'stays', 3]
'''
STAGE_5 = '''
>>> [list(symmetries(PATH)), len(list(maps(PATH, PATH, "deep one plain"))), images(PATH, ("a", "c"), PATH, "deep one plain").rows[1]]
[[{'a': 'a', 'b': 'b', 'c': 'c'}, {'a': 'c', 'b': 'b', 'c': 'a'}], 6, ('a', 'c')]
>>> [map_of(THERE, ("a",), BACK, ("a",), "deep many unlike"), map_of(THERE, ("a",), BACK, ("a",), "deep many not"), behind({"a": "b"}, {"b": "c"})]
[{'a': 'a', 'b': 'b'}, None, {'a': 'c'}]
'''
STAGE_6 = '''
>>> [ENDS.places, ENDS.cases[0][2], ENDS(Query(1, TIP)), first_misfit(ENDS, Query(1, Rule(("x",)))), str(BEGIN)]
[((0, ('a',)), (0, ('c',))), (('b',),), True, (0, ('b',), False), 'examples of 2 cases, 1 rows that must']
>>> [BEGIN.turned().places, (ENDS | ENDS).only(1) == ENDS, REST(Query(2, Rule(("x", "y"), ("out", "at", ("x", "y")))))]
[((1, ('a',)),), True, True]
'''
STAGE_7 = '''
>>> [columns_of(ENDS, ENDS.places), keys_of(ENDS, "flat one plain", ENDS.places), len(keys_of(ENDS, "deep one plain", ENDS.places))]
[(('a', 'c'),), (('a', 'c'),), 9]
>>> [list(key_rows(ENDS, "flat one not", ENDS.places, ("out", "edge"))), len(list(key_rows(ENDS, "deep one plain", ENDS.places, ("in", "edge"))))]
[[(('a', 'c'), ('a', 'c'))], 16]
>>> rule, mapping = rule_of(REST, "flat one not", REST.places)
>>> [len(rule), sorted(mapping.values()), answers(Query(2, rule), POINT) == sign_table(POINT, ("out", "at"))]
[2, [('a', 'b', 'b'), ('b', 'a', 'b')], True]
'''
STAGE_8 = '''
>>> turn = ("keeper", ((0, ("a",)),), 0, {("a",): "b", ("b",): "a", ("c",): "b"})
>>> [is_keeper(ENDS, "deep many plain", turn), is_keeper(ENDS, "deep many unlike", turn), thrown_row(ENDS, turn), keeper(ENDS, "deep one unlike")]
[True, False, ('b',), None]
>>> [keeper(REST, "flat many unlike")[1:], thrown_rows(REST, "deep one unlike", REST.places, 0).rows[0], len(list(kept_maps(REST, "deep one unlike", REST.places, 0)))]
[(((0, ('b', 'b')),), 0, {('b',): 'a'}), ('a', 'a'), 8]
'''
STAGE_9 = '''
>>> SPOTS = Database(("a", "b", "c"), p=Table(1, ("a",)), q=Table(1, ("b",)))
>>> EITHER = Examples(1, (SPOTS, (("a",), ("b",)), None))
>>> [len(flat_rule(PATH, ("a", "b"), "flat one not")), [len(kind) for kind in flat_kinds(PATH, 2, "flat many plain")]]
[5, [3, 4, 2]]
>>> [leads_flat(PATH, ("a", "c"), PATH, ("b", "b"), "flat one plain"), joint_sets(EITHER, "flat one not"), len(fewest_rules(EITHER, "flat many plain"))]
[True, ((0,), (1,)), 2]
'''
STAGE_10 = '''
>>> nowhere = Query(2, Rule(("x", "y"), ("out", "at", ("x", "y"))))
>>> tree = ("choose", "x", (("choose", "y", (("broken", ("out", "at", ("x", "y"))), ("fine",))), ("fine",)))
>>> told = tuple([(0, {"x": row[0], "y": row[1]}) for index, row in REST.places])
>>> [is_paper(REST, "flat one not", ("query", nowhere, told, ((tree,),))), is_fitting_paper(REST, ("query", nowhere, told[::-1], ((tree,),)))]
[True, False]
>>> [is_askable(REST, "deep one unlike"), is_askable(REST, "deep many unlike"), is_askable(BEGIN, "deep many unlike"), is_askable(BEGIN, "deep one not")]
[False, True, False, True]
>>> [paper(ENDS, "deep many plain")[0], query_of(REST, "flat one not", ("query", nowhere, told, ((tree,),))) == nowhere, query_for(REST, "deep many not").is_in("deep many not")]
['keeper', True, True]
'''
STAGE_11 = '''
>>> [one for one, value in ladder(ENDS).items() if value]
['deep many not', 'deep many unlike', 'deep one not', 'deep one unlike']
>>> [least_languages(REST), least_languages(BEGIN), least_languages(EITHER)]
[('deep many unlike', 'flat one not'), ('deep one not',), ('deep one unlike', 'flat many plain')]
>>> [clashes(REST, "flat one unlike"), clashes(REST, "deep one unlike"), carried(ENDS, "deep many plain", turn, "flat one plain")]
[((0, ('a', 'a'), (2,)),), ((0, ('a', 'a'), (0, 1, 2)),), ('keeper', ((0, ('a',)), (0, ('c',))), 0, {('a', 'c'): 'b'})]
'''


class DocumentTest(unittest.TestCase):
    def test_examples(self):
        names = {}
        for module in (
            tables, databases, languages, rules, answers, trees, maps, examples, places, keepers, flat, papers, ladder,
        ):
            names.update(vars(module))
        text = VALUES + STAGE_1 + STAGE_2 + STAGE_3 + STAGE_4 + STAGE_5 + STAGE_6 + STAGE_7 + STAGE_8 + STAGE_9 + STAGE_10
        text = text + STAGE_11
        told = doctest.DocTestParser().get_doctest(text, names, "the document", None, 0)
        printed = []
        result = doctest.DocTestRunner().run(told, out=printed.append)
        self.assertEqual((result.failed, result.attempted), (0, 41), "".join(printed))


if __name__ == "__main__":
    unittest.main()
