"""How a row is made, checked against the constraints of its table, and stored."""

from cursorhouse.collations import order_of
from cursorhouse.errors import (
    BROKEN_CHECK, BROKEN_NOT_NULL, BROKEN_PRIMARY_KEY, BROKEN_ROWID, FULL, MISMATCH, IntegrityError, OperationalError,
)
from cursorhouse.scopes import prepared_checks, prepared_collations, value_scope
from cursorhouse.values import GREATEST, as_integer, is_false, is_plain_int, with_affinity


class Storage:
    """Stores rows in tables of one form, with the way that a statement names.

    A method that stores a row returns None, or the name of the constraint that the row breaks. With the way `replace`
    such a constraint is one that no deletion mends.
    """

    def __init__(self, form, preparation, way):
        self._form = form
        self._preparation = preparation
        self._way = way
        self._collations = prepared_collations(form, preparation)
        self._checks = prepared_checks(form, preparation)
        self._defaults = {}

    def prepare_default(self, at):
        """Prepare the default of the column with an index, so that it can be computed."""
        default = self._form.columns[at].default
        if default is not None:
            self._defaults[at] = default.prepared(value_scope(self._preparation))

    def prepare_defaults_of_nulls(self, indexes):
        """Prepare the defaults that may take the place of NULLs in the columns with these indexes."""
        if self._way != "replace":
            return
        for at in indexes:
            if self._form.columns[at].is_not_null:
                self.prepare_default(at)

    def default_value(self, at):
        """Compute a default that has been prepared; NULL if the column has none."""
        if at not in self._defaults:
            return None
        return self._defaults[at].compute(())

    def insert_row(self, table, row):
        """Give a new row, a list, its rowid and store it."""
        self._apply_affinities(row)
        rowid = self._given_rowid(row)
        if rowid is None:
            rowid = _next_rowid(table)
        self._set_rowid(row, rowid)
        return self._put(table, row, None)

    def update_row(self, table, row, old_rowid):
        """Store a list as the row that had a rowid before."""
        self._apply_affinities(row)
        rowid = self._given_rowid(row)
        if rowid is None:
            raise IntegrityError(MISMATCH)
        self._set_rowid(row, rowid)
        return self._put(table, row, old_rowid)

    def _apply_affinities(self, row):
        row[0] = as_integer(row[0])
        for at, column in enumerate(self._form.columns):
            row[at + 1] = with_affinity(column.affinity, row[at + 1])

    def _given_rowid(self, row):
        rowid_at = self._form.rowid_at
        rowid = row[0] if rowid_at is None else row[rowid_at + 1]
        if rowid is not None and not is_plain_int(rowid):
            raise IntegrityError(MISMATCH)
        return rowid

    def _set_rowid(self, row, rowid):
        row[0] = rowid
        if self._form.rowid_at is not None:
            row[self._form.rowid_at + 1] = rowid

    def _put(self, table, row, old_rowid):
        broken = self._broken_by_itself(row)
        if broken is not None:
            return broken
        rivals = self._rivals(table, row, old_rowid)
        if rivals != [] and self._way != "replace":
            return rivals[0][0]
        for _, rowid in rivals:
            table.rows.pop(rowid, None)
        if old_rowid is not None:
            table.rows.pop(old_rowid, None)
        table.rows[row[0]] = tuple(row)
        return None

    def _broken_by_itself(self, row):
        for at, column in enumerate(self._form.columns):
            if not column.is_not_null or row[at + 1] is not None:
                continue
            if self._way == "replace":
                row[at + 1] = with_affinity(column.affinity, self.default_value(at))
            if row[at + 1] is None:
                return BROKEN_NOT_NULL
        frame = (tuple(row),)
        for check in self._checks:
            if is_false(check.compute(frame)):
                return BROKEN_CHECK
        return None

    def _rivals(self, table, row, old_rowid):
        others = [other for other in table.ordered_rows() if other[0] != old_rowid]
        name = BROKEN_ROWID if self._form.rowid_at is None else BROKEN_PRIMARY_KEY
        rivals = [(name, other[0]) for other in others if other[0] == row[0]]
        for name, indexes in self._form.unique_keys:
            rivals += [(name, other[0]) for other in others if self._has_equal_key(row, other, indexes)]
        return rivals

    def _has_equal_key(self, row, other, indexes):
        for at in indexes:
            value = row[at + 1]
            if value is None or order_of(value, other[at + 1], self._collations[at]) != 0:
                return False
        return True


def _next_rowid(table):
    least = 1
    if table.rows != {}:
        least = max(list(table.rows)) + 1
    if table.form.has_autoincrement:
        least = max(least, table.high + 1, 1)
    if least > GREATEST:
        raise OperationalError(FULL)
    return least
