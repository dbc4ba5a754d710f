"""The statements insert, update and delete."""

from cursorhouse.errors import require
from cursorhouse.scopes import prepared_checks, prepared_collations, table_scope, value_scope
from cursorhouse.storing import Storage
from cursorhouse.values import is_true


class Outcome:
    """What a change did: the changed table, the number of rows, and the name of the constraint that ended it."""

    def __init__(self, table, count, broken=None):
        self.table = table
        self.count = count
        self.broken = broken


class Insert:
    """`insert` as it is written: `columns` is None without a list.

    One of `rows` (lists of expressions) and `select` is not None, neither is for `default values`.
    """

    def __init__(self, way, table_name, columns, rows, select):
        self.way = way
        self.table_name = table_name.lower()
        self.columns = columns
        self.rows = rows
        self.select = select

    def prepared(self, preparation):
        """Return the plan of the statement."""
        return InsertPlan(self, preparation)


class InsertPlan:
    """A prepared insert."""

    family = "change"

    def __init__(self, insert, preparation):
        self.way = insert.way
        self.table_name = insert.table_name
        self._form = preparation.table_named(insert.table_name).form
        self._storage = Storage(self._form, preparation, insert.way)
        targets = self._insert_targets(insert)
        self._rows = None
        self._query = None
        if insert.rows is not None:
            self._rows = [_formulas(row, len(targets), preparation) for row in insert.rows]
        elif insert.select is not None:
            self._query = insert.select.prepared(preparation)
            require(len(self._query.names) == len(targets))
        else:
            self._rows = [[]]
        # For each column the index of the first value that goes to it.
        self._picks = {}
        for at, target in enumerate(targets):
            self._picks.setdefault(target, at)
        self._prepare_defaults()

    def _insert_targets(self, insert):
        if insert.columns is not None:
            return [_target(self._form, name) for name in insert.columns]
        if insert.rows is None and insert.select is None:
            return []
        return [at + 1 for at in range(len(self._form.columns))]

    def _prepare_defaults(self):
        listed = []
        self._unlisted = []
        for at in range(len(self._form.columns)):
            if at + 1 in self._picks:
                listed.append(at)
            elif at != self._form.rowid_at:
                self._unlisted.append(at)
        for at in self._unlisted:
            self._storage.prepare_default(at)
        self._storage.prepare_defaults_of_nulls(listed)

    def run(self, table, tables, counts):
        """Insert the rows into a table that may be changed, and return the outcome."""
        count = 0
        sets = self._rows if self._query is None else self._query.result_rows(tables)
        for told in sets:
            row = self._new_row(told if self._rows is None else [formula.compute(()) for formula in told])
            broken = self._storage.insert_row(table, row)
            if broken is None:
                count += 1
                counts.last_rowid = row[0]
            elif self.way != "ignore":
                return Outcome(table, count, broken)
            table.high = max(table.high, row[0])
        return Outcome(table, count)

    def _new_row(self, values):
        row = [None] * (len(self._form.columns) + 1)
        for target, at in self._picks.items():
            row[target] = values[at]
        for at in self._unlisted:
            row[at + 1] = self._storage.default_value(at)
        return row


class Update:
    """`update` as it is written; the assignments are pairs of a name and an expression."""

    def __init__(self, way, table_name, assignments, where):
        self.way = way
        self.table_name = table_name.lower()
        self.assignments = assignments
        self.where = where

    def prepared(self, preparation):
        """Return the plan of the statement."""
        return UpdatePlan(self, preparation)


class UpdatePlan:
    """A prepared update."""

    family = "change"

    def __init__(self, update, preparation):
        self.way = update.way
        self.table_name = update.table_name
        form = preparation.table_named(update.table_name).form
        scope = table_scope(preparation, form)
        self._storage = Storage(form, preparation, update.way)
        self._where = _prepared_where(update.where, scope)
        self._targets = [_target(form, name) for name, _ in update.assignments]
        self._formulas = [node.prepared(scope) for _, node in update.assignments]
        self._storage.prepare_defaults_of_nulls([target - 1 for target in self._targets if target > 0])

    def run(self, table, tables, counts):
        """Change the rows of a table that may be changed, and return the outcome."""
        count = 0
        for rowid in _chosen_rowids(table, self._where):
            row = table.rows.get(rowid)
            if row is None:
                continue
            broken = self._storage.update_row(table, self._new_row(row), rowid)
            if broken is None:
                count += 1
            elif self.way != "ignore":
                return Outcome(table, count, broken)
        return Outcome(table, count)

    def _new_row(self, row):
        values = [formula.compute((row,)) for formula in self._formulas]
        new = list(row)
        for target, value in zip(self._targets, values):
            new[target] = value
        return new


class Delete:
    """`delete` as it is written."""

    def __init__(self, table_name, where):
        self.table_name = table_name.lower()
        self.where = where

    def prepared(self, preparation):
        """Return the plan of the statement."""
        return DeletePlan(self, preparation)


class DeletePlan:
    """A prepared delete."""

    family = "change"

    def __init__(self, delete, preparation):
        self.table_name = delete.table_name
        form = preparation.table_named(delete.table_name).form
        # A collation or check that does not exist is an error although nothing is checked here.
        prepared_collations(form, preparation)
        prepared_checks(form, preparation)
        self._where = _prepared_where(delete.where, table_scope(preparation, form))

    def run(self, table, tables, counts):
        """Delete the rows from a table that may be changed, and return the outcome."""
        rowids = _chosen_rowids(table, self._where)
        for rowid in rowids:
            table.rows.pop(rowid, None)
        return Outcome(table, len(rowids))


def _target(form, name):
    found = form.position_or_rowid(name)
    require(found is not None)
    return found


def _formulas(nodes, count, preparation):
    require(len(nodes) == count)
    scope = value_scope(preparation)
    return [node.prepared(scope) for node in nodes]


def _prepared_where(node, scope):
    return None if node is None else node.prepared(scope)


def _chosen_rowids(table, where):
    return [row[0] for row in table.ordered_rows() if where is None or is_true(where.compute((row,)))]
