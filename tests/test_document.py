"""The examples of the document, as they stand there."""

import doctest
import unittest

from askable.ask import answers, languages, rules, trees
from askable.base import databases, tables
from askable.desk import desk
from askable.give import giving
from askable.keep import flat, keepers, maps, places
from askable.short import lean
from askable.tell import least, order
from askable.text import formats, shell
from askable.wish import examples, ladder, papers

VALUES = '''
>>> PATH = Database(("a", "b", "c"), edge=Table(2, ("a", "b"), ("b", "a"), ("b", "c"), ("c", "b")))
>>> ENDS = Examples(1, (PATH, (("a",), ("c",)), None))
>>> POINT = Database(("a", "b"), at=Table(2, ("a", "a")))
>>> REST = Examples(2, (POINT, (("a", "b"), ("b", "a"), ("b", "b")), None))
>>> THERE, BACK = Database(("a", "b"), to=Table(2, ("a", "b"))), Database(("a", "b"), to=Table(2, ("a", "b"), ("b", "a")))
>>> BEGIN = Examples(1, (THERE, (("a",),), ()), (BACK, (), (("a",),)))
'''
STAGE_1 = '''
>>> [PATH["edge"].picked(1, 1).rows, sign_table(POINT, ("out", "at")).rows, ("unlike",) in PATH, str(PATH)]
[(('a', 'a'), ('b', 'b'), ('c', 'c')), (('a', 'b'), ('b', 'a'), ('b', 'b')), False, 'database of 3 values, 1 tables']
>>> [len(whole_table(PATH.domain, 2) - sign_table(PATH, ("unlike",))), PATH.renamed({"a": "c", "b": "b", "c": "a"}) == PATH]
[3, True]
'''
STAGE_2 = '''
>>> TIP = Rule(("x",), ("in", "edge", ("x", "y")), ("in", "edge", ("y", "z")), ("unlike", "z", "x"))
>>> [TIP.atoms[2], TIP.hidden, Query(1, TIP).language, is_within("flat one not", "deep one not"), joined("flat many plain", "deep one not")]
[('unlike', 'x', 'z'), ('y', 'z'), 'deep one unlike', True, 'deep many not']
>>> [signs_of(THERE, "flat one not"), len(LANGUAGES), LANGUAGES[3], Query(0).language]
[(('in', 'to'), ('out', 'to'), ('unlike',)), 12, 'flat many plain', 'flat many plain']
'''
STAGE_3 = '''
>>> [answers(Query(1, TIP), PATH).rows, list(ways(TIP, PATH, ("a",))), way_of(Query(1, TIP), PATH, ("b",))]
[(('a',), ('c',)), [{'x': 'a', 'y': 'b', 'z': 'c'}], None]
>>> [answers(Query(2, Rule(("x", "x"))), POINT).rows, len(answers(Query(0, Rule(())), POINT)), answers(Query(1), POINT).rows]
[(('a', 'a'), ('b', 'b')), 1, ()]
'''
STAGE_4 = '''
>>> inner = ("choose", "z", (("broken", TIP.atoms[1]), ("broken", TIP.atoms[2]), ("broken", TIP.atoms[1])))
>>> tree = ("choose", "x", (("fine",), ("choose", "y", (inner, ("broken", TIP.atoms[0]), inner)), ("fine",)))
>>> [is_closed_tree(TIP, PATH, (("b",),), tree), size_of(tree), closed_tree(TIP, PATH, (("a",),)), is_closed_tree(TIP, PATH, (), ("fine",))]
[True, 13, None, True]
>>> [row_paper(Query(1, TIP), PATH, ("a",)), row_paper(Query(1, TIP), PATH, ("b",))[0], height_of(tree)]
[('comes', (0, {'x': 'a', 'y': 'b', 'z': 'c'})), 'stays', 3]
'''
STAGE_5 = '''
>>> [list(symmetries(PATH)), len(list(maps(PATH, PATH, "deep one plain"))), images(PATH, ("a", "c"), PATH, "deep one plain").rows[1]]
[[{'a': 'a', 'b': 'b', 'c': 'c'}, {'a': 'c', 'b': 'b', 'c': 'a'}], 6, ('a', 'c')]
>>> [map_of(THERE, ("a",), BACK, ("a",), "deep many unlike"), map_of(THERE, ("a",), BACK, ("a",), "deep many not"), behind({"a": "b"}, {"b": "c"})]
[{'a': 'a', 'b': 'b'}, None, {'a': 'c'}]
'''
STAGE_6 = '''
>>> [ENDS.places, ENDS.cases[0][2], ENDS(Query(1, TIP)), first_misfit(ENDS, Query(1, Rule(("x",)))), str(BEGIN)]
[((0, ('a',)), (0, ('c',))), (('b',),), True, (0, ('b',), False), 'examples of 2 cases, 1 rows that must']
>>> [BEGIN.turned().places, (ENDS | ENDS).only(1) == ENDS, REST(Query(2, Rule(("x", "y"), ("out", "at", ("x", "y")))))]
[((1, ('a',)),), True, True]
'''
STAGE_7 = '''
>>> [columns_of(ENDS, ENDS.places), keys_of(ENDS, "flat one plain", ENDS.places), len(keys_of(ENDS, "deep one plain", ENDS.places))]
[(('a', 'c'),), (('a', 'c'),), 9]
>>> [list(key_rows(ENDS, "flat one not", ENDS.places, ("out", "edge"))), len(list(key_rows(ENDS, "deep one plain", ENDS.places, ("in", "edge"))))]
[[(('a', 'c'), ('a', 'c'))], 16]
>>> rule, mapping = rule_of(REST, "flat one not", REST.places)
>>> [len(rule), sorted(mapping.values()), answers(Query(2, rule), POINT) == sign_table(POINT, ("out", "at"))]
[2, [('a', 'b', 'b'), ('b', 'a', 'b')], True]
'''
STAGE_8 = '''
>>> turn = ("keeper", ((0, ("a",)),), 0, {("a",): "b", ("b",): "a", ("c",): "b"})
>>> [is_keeper(ENDS, "deep many plain", turn), is_keeper(ENDS, "deep many unlike", turn), thrown_row(ENDS, turn), keeper(ENDS, "deep one unlike")]
[True, False, ('b',), None]
>>> [keeper(REST, "flat many unlike")[1:], thrown_rows(REST, "deep one unlike", REST.places, 0).rows[0], len(list(kept_maps(REST, "deep one unlike", REST.places, 0)))]
[(((0, ('b', 'b')),), 0, {('b',): 'a'}), ('a', 'a'), 8]
'''
STAGE_9 = '''
>>> SPOTS = Database(("a", "b", "c"), p=Table(1, ("a",)), q=Table(1, ("b",)))
>>> EITHER = Examples(1, (SPOTS, (("a",), ("b",)), None))
>>> [len(flat_rule(PATH, ("a", "b"), "flat one not")), [len(kind) for kind in flat_kinds(PATH, 2, "flat many plain")]]
[5, [3, 4, 2]]
>>> [leads_flat(PATH, ("a", "c"), PATH, ("b", "b"), "flat one plain"), joint_sets(EITHER, "flat one not"), len(fewest_rules(EITHER, "flat many plain"))]
[True, ((0,), (1,)), 2]
'''
STAGE_10 = '''
>>> nowhere = Query(2, Rule(("x", "y"), ("out", "at", ("x", "y"))))
>>> tree = ("choose", "x", (("choose", "y", (("broken", ("out", "at", ("x", "y"))), ("fine",))), ("fine",)))
>>> told = tuple([(0, {"x": row[0], "y": row[1]}) for index, row in REST.places])
>>> [is_paper(REST, "flat one not", ("query", nowhere, told, ((tree,),))), is_fitting_paper(REST, ("query", nowhere, told[::-1], ((tree,),)))]
[True, False]
>>> [is_askable(REST, "deep one unlike"), is_askable(REST, "deep many unlike"), is_askable(BEGIN, "deep many unlike"), is_askable(BEGIN, "deep one not")]
[False, True, False, True]
>>> [paper(ENDS, "deep many plain")[0], query_of(REST, "flat one not", ("query", nowhere, told, ((tree,),))) == nowhere, query_for(REST, "deep many not").is_in("deep many not")]
['keeper', True, True]
'''
STAGE_11 = '''
>>> [one for one, value in ladder(ENDS).items() if value]
['deep many not', 'deep many unlike', 'deep one not', 'deep one unlike']
>>> [least_languages(REST), least_languages(BEGIN), least_languages(EITHER)]
[('deep many unlike', 'flat one not'), ('deep one not',), ('deep one unlike', 'flat many plain')]
>>> [clashes(REST, "flat one unlike"), clashes(REST, "deep one unlike"), carried(ENDS, "deep many plain", turn, "flat one plain")]
[((0, ('a', 'a'), (2,)),), ((0, ('a', 'a'), (0, 1, 2)),), ('keeper', ((0, ('a',)), (0, ('c',))), 0, {('a', 'c'): 'b'})]
'''
STAGE_12 = '''
>>> alone, ahead = (Table(1, ("a",)),), (Table(1, ("a",)), Table(1))
>>> [least_tables((PATH,), alone, "deep many unlike")[0].rows, len(least_tables((PATH,), alone, "deep one plain")[0]), greatest_tables((PATH,), alone, "deep many unlike")[0].rows]
[(('a',), ('c',)), 3, ()]
>>> [can_have((THERE, BACK), ahead, "deep one not"), least_tables((THERE, BACK), ahead, "deep many unlike")[1].rows, exact_wish((PATH,), alone).cases[0][2]]
[True, (('a',), ('b',)), (('b',), ('c',))]
'''
STAGE_13 = '''
>>> [classes(PATH, 1, "deep many unlike"), number_of_tables(PATH, 1, "deep many unlike"), number_of_tables(PATH, 1, "deep many plain")]
[((('a',), ('c',)), (('b',),)), 4, 2]
>>> [class_order(POINT, 1, "flat many plain"), [len(table) for table in tables_asked(POINT, 1, "flat many plain")], is_order_paper(POINT, ("b",), ("a",), "flat one plain", ("map", {"b": "a"}))]
[((1, 0),), [0, 1, 2], True]
'''
STAGE_14 = '''
>>> extra = TIP.with_atom(("in", "edge", ("y", "x")))
>>> [is_lean(ENDS, Query(1, TIP)), needed_atoms(ENDS, Query(1, extra)), [len(rule) for rule in lean(ENDS, Query(1, extra))]]
[True, ((0, ('in', 'edge', ('y', 'z'))), (0, ('unlike', 'x', 'z'))), [3]]
>>> [needed_rules(REST, nowhere | Query(2, Rule(("x", "x"), ("out", "at", ("x", "x"))))), shortest(REST, nowhere) == nowhere]
[(1,), True]
'''
STAGE_15 = '''
>>> PAIR = POINT.with_table("mark", Table(1, ("a",)))
>>> [bases(PAIR, "flat many plain"), spare(PAIR, "flat one not"), bases(PAIR, "flat one not"), tables_given(PAIR, ("mark",), "flat many not")]
[(('at',), ('mark',)), ('mark',), (('at',),), ('at', 'mark')]
>>> [least_harmful(PAIR, Table(1, ("b",)), "flat many not"), greatest_harmless(PAIR, Table(1, ("b",)), "flat many not"), greatest_harmless(PAIR, Table(1, ("b",)), "flat one plain")]
[(('at',), ('mark',)), ((),), (('at', 'mark'),)]
'''
STAGE_16 = r'''
>>> desk = Desk({"to": 2})
>>> [desk.apply(("put", "one", THERE), ("wish", "begin", 1), ("must", "begin", "one", ("a",)), ("bar", "begin", "one", ("b",))), desk.watch("begin", "flat one not"), desk.ladder("begin")["flat one not"]]
[1, False, False]
>>> [desk.watch("begin", "deep one unlike"), desk.apply(("put", "two", BACK), ("bar", "begin", "two", ("a",))), list(desk.news()), desk.undo(), str(desk)]
[True, 2, [(('begin', 'deep one unlike'), True, False)], 1, 'desk of 1 databases, 1 wishes']
>>> [format_rule(TIP), format_database(POINT), parse_query("0\n()") == Query(0, Rule(())), parse_table("1: -") == Table(1)]
['(x) if edge(x,y), edge(y,z), x!=z', 'values a b\nat 2: (a,a)', True, True]
>>> shell = Shell(Desk({"at": 2}))
>>> list(shell.run_all(("put one\n" + format_database(POINT), "wish far 2", "must far one (a,b)", "bar far one (a,a)", "show one", "ask far flat one plain")))[3:]
['ok', 'values a b\nat 2: (a,a)', 'never']
'''


class DocumentTest(unittest.TestCase):
    def test_examples(self):
        names = {}
        for module in (
            tables, databases, languages, rules, answers, trees, maps, examples, places, keepers, flat, papers, ladder,
            least, order, lean, giving, desk, formats, shell,
        ):
            names.update(vars(module))
        text = VALUES + STAGE_1 + STAGE_2 + STAGE_3 + STAGE_4 + STAGE_5 + STAGE_6 + STAGE_7 + STAGE_8 + STAGE_9 + STAGE_10
        text = text + STAGE_11 + STAGE_12 + STAGE_13 + STAGE_14 + STAGE_15 + STAGE_16
        told = doctest.DocTestParser().get_doctest(text, names, "the document", None, 0)
        printed = []
        result = doctest.DocTestRunner().run(told, out=printed.append)
        self.assertEqual((result.failed, result.attempted), (0, 58), "".join(printed))


if __name__ == "__main__":
    unittest.main()
