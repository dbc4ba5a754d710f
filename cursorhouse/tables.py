"""Tables: their columns and constraints, and their rows."""

from cursorhouse.values import INTEGER, affinity_of_kind


class Column:
    """A column of a table; its default is an expression or None."""

    def __init__(self, name, declared):
        self.name = name
        self.declared = declared
        self.affinity = affinity_of_kind(declared)
        self.collation_name = "BINARY"
        self.default = None
        self.is_not_null = False


class TableForm:
    """All of a table but its rows.

    `rowid_at` is the index of the column that is the rowid, or None. `unique_keys` are pairs of the name of an error
    and the indexes of the columns that must not be equal in two rows. `checks` are expressions. `text` is the SQL text
    from the table's name to its end.
    """

    def __init__(self, name, columns, text):
        self.name = name
        self.columns = columns
        self.text = text
        self.rowid_at = None
        self.has_autoincrement = False
        self.unique_keys = []
        self.checks = []

    def position(self, name):
        """Return where the column of this name stands in a row, behind the rowid, or None."""
        for at, column in enumerate(self.columns):
            if column.name.lower() == name.lower():
                return at + 1
        return None

    def position_or_rowid(self, name):
        """Return where an assignment to this name goes in a row, or None."""
        found = self.position(name)
        if found is not None or name.lower() != "rowid":
            return found
        return 0 if self.rowid_at is None else self.rowid_at + 1

    def column_at(self, position):
        """Return the column at a position of a row; at 0 one that describes the rowid."""
        if position > 0:
            return self.columns[position - 1]
        if self.rowid_at is not None:
            named = self.columns[self.rowid_at]
            rowid = Column(named.name, named.declared)
        else:
            rowid = Column("rowid", "")
        rowid.affinity = INTEGER
        return rowid


class Table:
    """The rows of a table by their rowids, each a tuple of its rowid and the values of the columns.

    `high` is the greatest rowid that autoincrement keeps in mind.
    """

    def __init__(self, form, rows, high):
        self.form = form
        self.rows = rows
        self.high = high

    def twin(self):
        """Return a table with the same rows that can be changed without this one."""
        return Table(self.form, dict(self.rows), self.high)

    def ordered_rows(self):
        """Return the list of the rows by ascending rowids."""
        return [self.rows[rowid] for rowid in sorted(list(self.rows))]
