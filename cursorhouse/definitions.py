"""The statements create table and drop table."""

from cursorhouse.errors import BROKEN_PRIMARY_KEY, BROKEN_UNIQUE, require
from cursorhouse.scopes import prepared_checks, prepared_collations, value_scope
from cursorhouse.tables import Column, Table, TableForm


class ColumnText:
    """A column as it is written."""

    def __init__(self, name, declared):
        self.name = name
        self.declared = declared
        self.is_primary = False
        self.has_autoincrement = False
        self.is_not_null = False
        self.is_unique = False
        self.checks = []
        self.default = None
        self.collation_name = "BINARY"


class NothingPlan:
    """The plan of a statement that does nothing."""

    family = "nothing"


class CreateTable:
    """`create table` as it is written.

    `primaries` and `uniques` are lists of lists of names, `checks` is a list of expressions; `text` is the SQL text
    from the table's name on.
    """

    def __init__(self, name, if_not_exists):
        self.name = name
        self.if_not_exists = if_not_exists
        self.text = ""
        self.columns = []
        self.constraint_count = 0
        self.primaries = []
        self.uniques = []
        self.checks = []
        self.has_placeholder = False

    def prepared(self, preparation):
        """Return the plan of the statement."""
        require(not self.has_placeholder)
        if self.name.lower() in preparation.tables:
            require(self.if_not_exists)
            return NothingPlan()
        return CreatePlan(self, preparation)


class CreatePlan:
    """A prepared `create table`."""

    family = "create"

    def __init__(self, create, preparation):
        self.table_name = create.name.lower()
        self._form = _table_form(create)
        self._check_names(create)
        prepared_collations(self._form, preparation)
        prepared_checks(self._form, preparation)
        scope = value_scope(preparation)
        for column in create.columns:
            if column.default is not None:
                column.default.prepared(scope)

    def _check_names(self, create):
        require(not self.table_name.startswith("sqlite_"))
        names = {column.name.lower(): True for column in create.columns}
        require(len(names) == len(create.columns))

    def new_table(self):
        """Return the table without rows."""
        return Table(self._form, {}, 0)


class DropTable:
    """`drop table` as it is written."""

    def __init__(self, name, if_exists):
        self.table_name = name.lower()
        self.if_exists = if_exists

    def prepared(self, preparation):
        """Return the plan of the statement."""
        if self.table_name not in preparation.tables:
            require(self.if_exists)
            return NothingPlan()
        return DropPlan(self.table_name)


class DropPlan:
    """A prepared `drop table`."""

    family = "drop"

    def __init__(self, table_name):
        self.table_name = table_name


def _table_form(create):
    form = TableForm(create.name, [_column(text) for text in create.columns], create.text)
    primaries = _primary_indexes(create, form)
    require(len(primaries) <= 1)
    for indexes in primaries:
        if _is_rowid(form, indexes):
            form.rowid_at = indexes[0]
        else:
            form.unique_keys.append((BROKEN_PRIMARY_KEY, indexes))
    for at, text in enumerate(create.columns):
        if text.has_autoincrement:
            require(form.rowid_at == at)
            form.has_autoincrement = True
        if text.is_unique:
            form.unique_keys.append((BROKEN_UNIQUE, (at,)))
        form.checks += text.checks
    for names in create.uniques:
        form.unique_keys.append((BROKEN_UNIQUE, _indexes(form, names)))
    form.checks += create.checks
    return form


def _column(text):
    column = Column(text.name, text.declared)
    column.collation_name = text.collation_name
    column.default = text.default
    column.is_not_null = text.is_not_null
    return column


def _primary_indexes(create, form):
    own = [(at,) for at, text in enumerate(create.columns) if text.is_primary]
    return own + [_indexes(form, names) for names in create.primaries]


def _indexes(form, names):
    positions = [form.position(name) for name in names]
    require(None not in positions)
    return tuple([position - 1 for position in positions])


def _is_rowid(form, indexes):
    return len(indexes) == 1 and form.columns[indexes[0]].declared.lower() == "integer"
