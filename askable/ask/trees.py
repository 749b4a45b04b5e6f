"""Closed trees, which show that no barred row is an answer, and row papers."""

from askable.ask.answers import check_bound, check_query_at_row, is_way, way_of
from askable.ask.rules import check_rule, is_atom, variables_of
from askable.ask.search import rule_search
from askable.ask.truth import Signs, check_meeting
from askable.base.checks import are_rows, rows_of
from askable.base.databases import check_database
from askable.base.tables import MAX_VALUES, is_name
from askable.errors import InvalidOperation


def _check_barred(rule, database, barred):
    """Raise the errors of a rule and the barred rows of a database."""
    check_rule(rule)
    check_database(database)
    if not are_rows(barred, len(rule.head), database.domain):
        raise InvalidOperation("the barred rows are not an ascending tuple of rows over the values")
    check_meeting(rule.tables, database)


def _agreeing(head, rows, chosen):
    """The list of the rows that agree with a head, with any of the values that are chosen for the variables."""
    return [row for row in rows if _agrees(head, row, chosen)]


def _agrees(head, row, chosen):
    mapping = dict(zip(head, row))
    for variable, value in zip(head, row):
        if mapping[variable] != value or value not in chosen.get(variable, row):
            return False
    return True


def closed_tree(rule, database, barred):
    """A closed tree of the rule and the barred rows, or None if one of them is an answer."""
    _check_barred(rule, database, barred)
    check_bound(rule, database)
    return tree_of(rule, Signs(database), barred)


def tree_of(rule, signs, barred):
    """A closed tree of the rule in the database of the signs, or None if a barred row is an answer."""
    return _tree_behind(rule.head, rule_search(rule, signs), (), _agreeing(rule.head, barred, {}))


def _tree_behind(head, search, told, agreeing):
    """A closed tree behind the choice of these values, told by their numbers, or None.

    The barred rows that agree with the choices are told by the caller.
    """
    if len(agreeing) == 0:
        return ("fine",)
    atom = search.broken_atom(told)
    if atom is not None:
        return ("broken", atom)
    if len(told) == len(search.order):
        return None
    variable = search.order[len(told)]
    trees = []
    for number, value in enumerate(search.choices):
        left = _agreeing(head, agreeing, {variable: (value,)})
        tree = _tree_behind(head, search, told + (number,), left)
        if tree is None:
            return None
        trees.append(tree)
    return ("choose", variable, tuple(trees))


def _different(trees):
    """The list of the positions of trees that no tree ahead of them is equal to."""
    # One part can stand in a tree many times over: to look once at equal ones can save nearly all steps.
    return [at for at in range(len(trees)) if trees.index(trees[at]) == at]


class TreeJudge:
    """Tells which trees are closed trees of a rule in the database of some signs."""

    def __init__(self, rule, signs):
        self._rule = rule
        self._signs = signs
        self._known_atoms = {atom: True for atom in rule}

    def accepts(self, tree, chosen, agreeing):
        """Whether the value is a closed tree for each choice of one of the values of each chosen variable.

        The barred rows that agree with the choices are told by the caller.
        """
        if tree == ("fine",):
            return len(agreeing) == 0
        if not isinstance(tree, tuple):
            return False
        if len(tree) == 2 and tree[0] == "broken":
            return self._is_broken(tree[1], chosen)
        if len(tree) != 3 or tree[0] != "choose" or not self._can_choose(tree[1], chosen):
            return False
        return self._accepts_all(tree[1], tree[2], chosen, agreeing)

    def _is_broken(self, atom, chosen):
        if not is_atom(atom) or atom not in self._known_atoms:
            return False
        variables = sorted(set(variables_of(atom)))
        if not all([variable in chosen for variable in variables]):
            return False
        told = rows_of([chosen[variable] for variable in variables])
        return not any([self._signs.holds(atom, dict(zip(variables, row))) for row in told])

    def _can_choose(self, variable, chosen):
        return variable in self._rule.variables and variable not in chosen

    def _accepts_all(self, variable, trees, chosen, agreeing):
        choices = self._signs.choices
        if not isinstance(trees, tuple) or len(trees) != len(choices):
            return False
        for at in _different(trees):
            values = tuple([value for value, tree in zip(choices, trees) if tree == trees[at]])
            left = _agreeing(self._rule.head, agreeing, {variable: values})
            if not self.accepts(trees[at], {**chosen, variable: values}, left):
                return False
        return True


def is_closed_tree(rule, database, barred, value):
    """Whether the value is a closed tree of the rule and the barred rows."""
    _check_barred(rule, database, barred)
    return accepts_tree(rule, Signs(database), barred, value)


def accepts_tree(rule, signs, barred, value):
    """Whether the value is a closed tree of the rule and the barred rows, in the database of the signs."""
    return TreeJudge(rule, signs).accepts(value, {}, _agreeing(rule.head, barred, {}))


def row_paper(query, database, row):
    """A row paper: a way to the row, or a closed tree of each rule."""
    way = way_of(query, database, row)
    if way is not None:
        return ("comes", way)
    return ("stays", tuple([closed_tree(rule, database, (row,)) for rule in query]))


def is_row_paper(query, database, row, value):
    """Whether the value is a row paper."""
    check_query_at_row(query, database, row)
    if not isinstance(value, tuple) or len(value) != 2:
        return False
    if value[0] == "comes":
        return is_way(query, database, row, value[1])
    return value[0] == "stays" and _are_closed(query, database, row, value[1])


def _are_closed(query, database, row, trees):
    """Whether the value is a tuple with a closed tree of each rule of the query and the row."""
    if not isinstance(trees, tuple) or len(trees) != len(query):
        return False
    return all([is_closed_tree(rule, database, (row,), tree) for rule, tree in zip(query, trees)])


def _is_tree(value):
    """Whether the value has the form of a tree, of any rule."""
    if not isinstance(value, tuple) or len(value) != 3:
        return value == ("fine",) or _is_broken_leaf(value)
    if value[0] != "choose" or not is_name(value[1]) or not isinstance(value[2], tuple):
        return False
    if not 1 <= len(value[2]) <= MAX_VALUES:
        return False
    return all([_is_tree(value[2][at]) for at in _different(value[2])])


def _is_broken_leaf(value):
    return isinstance(value, tuple) and len(value) == 2 and value[0] == "broken" and is_atom(value[1])


def _check_tree(tree):
    if not _is_tree(tree):
        raise InvalidOperation("not a tree")


def _trees_below(tree):
    return tree[2] if tree[0] == "choose" else ()


def size_of(tree):
    """The number of the parts of a tree that are closed trees, itself included."""
    _check_tree(tree)
    return _size(tree)


def _size(tree):
    trees = _trees_below(tree)
    return 1 + sum([_size(trees[at]) * trees.count(trees[at]) for at in _different(trees)])


def height_of(tree):
    """The greatest number of choices one below another one in a tree."""
    _check_tree(tree)
    return _height(tree)


def _height(tree):
    trees = _trees_below(tree)
    return 1 + max([_height(trees[at]) for at in _different(trees)]) if trees else 0


def choices_of(tree):
    """The ascending tuple of the variables that are chosen in a tree."""
    _check_tree(tree)
    return tuple(_choices(tree))


def _choices(tree):
    trees = _trees_below(tree)
    below = [variable for at in _different(trees) for variable in _choices(trees[at])]
    return sorted(set(list(tree[1:2]) + below)) if trees else []


def atoms_in(tree):
    """The ascending list of the atoms that are broken in a tree."""
    if tree[0] == "broken":
        return [tree[1]]
    trees = _trees_below(tree)
    return sorted({atom for at in _different(trees) for atom in atoms_in(trees[at])})
