"""The statement select as it is written, and how it is prepared."""

from cursorhouse.aggregates import AggregateList
from cursorhouse.errors import require
from cursorhouse.nodes import place_formula
from cursorhouse.queries import Join, Query
from cursorhouse.scopes import Scope, Source, prepared_checks, prepared_collations, value_scope
from cursorhouse.sorting import GroupTerm, OrderTerm


class SourceText:
    """A source as it is written; `condition` is the expression behind `on`, or None."""

    def __init__(self, table_name, name, is_left):
        self.table_name = table_name.lower()
        self.name = name
        self.is_left = is_left
        self.condition = None


class ResultText:
    """A result as it is written.

    For `*` and `NAME.*` there is no expression, and the alias is the NAME or None.
    """

    def __init__(self, node, alias, text):
        self.node = node
        self.alias = alias
        self.text = text


class Select:
    """`select` as it is written; the terms are pairs of an expression and whether it is descending."""

    def __init__(self, is_distinct, results):
        self.is_distinct = is_distinct
        self.results = results
        self.sources = []
        self.where = None
        self.groups = []
        self.having = None
        self.terms = []
        self.limit = None
        self.offset = None

    def prepared(self, preparation):
        """Return the plan of the statement."""
        return SelectPreparer(self, preparation).query()


class ResultColumn:
    """A column of the result: an expression, or (without one) the place of a column that a `*` stands for."""

    def __init__(self, name, alias, node, place, declared):
        self.name = name
        self.alias = alias
        self.node = node
        self.place = place
        self.declared = declared

    def formula(self, scope):
        """Return the formula of the column in a scope."""
        if self.node is None:
            return place_formula(scope, self.place)
        return self.node.prepared(scope.without_aliases())


class SelectPreparer:
    """Makes the Query of a Select."""

    def __init__(self, select, preparation):
        self._select = select
        self._preparation = preparation
        self._sources = [_source(text, preparation) for text in select.sources]
        self._binary = preparation.collation_named("BINARY")
        self._aggregates = AggregateList()
        self._columns = []
        for result in select.results:
            self._columns += self._result_columns(result)
        aliased = [column for column in self._columns if column.alias is not None]
        self._aliases = [(column.alias.lower(), column.node) for column in aliased]

    def query(self):
        """Return the Query."""
        select = self._select
        formulas = [column.formula(self._scope(self._aggregates)) for column in self._columns]
        names = [column.name for column in self._columns]
        query = Query(names, [column.declared for column in self._columns], formulas)
        scope = self._scope(None)
        query.joins = [self._join(at, text) for at, text in enumerate(select.sources)]
        query.where = _prepared_or_none(select.where, scope)
        groups = [self._group_term(node, scope) for node in select.groups]
        if select.having is not None:
            require(groups != [] or self._aggregates.members != [])
            query.having = select.having.prepared(self._scope(self._aggregates))
        if groups != [] or self._aggregates.members != []:
            query.groups = groups
            query.aggregates = self._aggregates
            scope = self._scope(self._aggregates)
        if select.is_distinct:
            query.distinct_collations = [formula.own_collation(self._binary) for formula in formulas]
        query.terms = [self._order_term(node, falls, formulas, scope) for node, falls in select.terms]
        query.limit = _prepared_or_none(select.limit, value_scope(self._preparation))
        query.offset = _prepared_or_none(select.offset, value_scope(self._preparation))
        return query

    def _scope(self, aggregates):
        return Scope(self._preparation, self._sources, self._aliases, aggregates)

    def _result_columns(self, result):
        if result.node is None:
            return self._star_columns(result.alias)
        name = result.text
        declared = None
        column = result.node.bare_column()
        place = None
        if column is not None:
            place = Scope(self._preparation, self._sources).place_of(column.qualifier, column.name)
            require(place is not None)
            described = self._sources[place[0]].form.column_at(place[1])
            name = described.name
            declared = described.declared
        if result.alias is not None:
            name = result.alias
        return [ResultColumn(name, result.alias, result.node, place, declared)]

    def _star_columns(self, qualifier):
        asked = []
        for at, source in enumerate(self._sources):
            if qualifier is None or source.name == qualifier.lower():
                asked.append(at)
        require(asked != [] and (qualifier is None or len(asked) == 1))
        columns = []
        for at in asked:
            for index, column in enumerate(self._sources[at].form.columns):
                columns.append(ResultColumn(column.name, None, None, (at, index + 1), column.declared))
        return columns

    def _join(self, at, text):
        scope = Scope(self._preparation, self._sources[:at + 1], self._aliases)
        condition = _prepared_or_none(text.condition, scope)
        return Join(text.table_name, len(self._sources[at].form.columns), text.is_left, condition)

    def _group_term(self, node, scope):
        number = node.whole()
        if number is None:
            formula = node.prepared(scope)
            return GroupTerm(formula.compute, formula.own_collation(self._binary))
        formula = self._columns[self._index_of_number(number)].formula(scope)
        return GroupTerm(formula.compute, self._term_collation(node, formula))

    def _order_term(self, node, is_descending, formulas, scope):
        index = self._result_index(node)
        if index is None:
            formula = node.prepared(scope)
            return OrderTerm(None, formula.compute, formula.own_collation(self._binary), is_descending)
        return OrderTerm(index, None, self._term_collation(node, formulas[index]), is_descending)

    def _result_index(self, node):
        number = node.whole()
        if number is not None:
            return self._index_of_number(number)
        name = node.lone_name()
        if name is None:
            return None
        for at, column in enumerate(self._columns):
            if column.alias is not None and column.alias.lower() == name.lower():
                return at
        return None

    def _index_of_number(self, number):
        require(1 <= number <= len(self._columns))
        return number - 1

    def _term_collation(self, node, formula):
        collations = [self._preparation.collation_named(name) for name in node.collate_names()]
        return collations[0] if collations != [] else formula.own_collation(self._binary)


def _source(text, preparation):
    form = preparation.table_named(text.table_name).form
    # A collation or check that does not exist is an error although nothing is checked here.
    prepared_collations(form, preparation)
    prepared_checks(form, preparation)
    return Source(text.name, form)


def _prepared_or_none(node, scope):
    return None if node is None else node.prepared(scope)
