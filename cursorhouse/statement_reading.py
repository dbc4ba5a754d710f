"""Reading statements."""

from cursorhouse.changes import Delete, Insert, Update
from cursorhouse.controls import Control
from cursorhouse.definitions import ColumnText, CreateTable, DropTable
from cursorhouse.errors import require
from cursorhouse.nodes import Literal, Signed
from cursorhouse.select_reading import SelectReader

WAYS = ("abort", "fail", "ignore", "replace", "rollback")
LEVELS = ("deferred", "immediate", "exclusive")


def read_statement(sql, tokens):
    """Return the statement that some tokens, at least one, of an SQL text make."""
    reader = StatementReader(sql, tokens)
    statement = reader.statement()
    require(reader.is_at_end())
    return statement


class StatementReader(SelectReader):
    """Reads one statement."""

    def statement(self):
        """Read a statement and return it."""
        if self.is_at("select"):
            return self.read_select()
        if self.is_at("insert", "replace"):
            return self._insert()
        if self.took("update"):
            return self._update()
        if self.took("delete", "from"):
            return Delete(self.take_name(), self.read_where())
        if self.took("create", "table"):
            return self._create_table()
        if self.took("drop", "table"):
            if_exists = self.took("if", "exists")
            return DropTable(self.take_name(), if_exists)
        return self._control()

    def _control(self):
        action = self.taken().word
        require(action in ("begin", "commit", "end", "rollback", "savepoint", "release"))
        if action == "begin":
            return Control("begin", self._level())
        if action == "savepoint":
            return Control("savepoint", self.take_name())
        if action == "release":
            self.took("savepoint")
            return Control("release", self.take_name())
        self.took("transaction")
        if action == "rollback" and self.took("to"):
            self.took("savepoint")
            return Control("rollback to", self.take_name())
        return Control("rollback" if action == "rollback" else "commit", None)

    def _level(self):
        level = self.taken().word if self.is_at(*LEVELS) else "deferred"
        self.took("transaction")
        return level

    def _taken_way(self):
        if not self.took("or"):
            return "abort"
        require(self.is_at(*WAYS))
        return self.taken().word

    def _insert(self):
        if self.took("replace"):
            way = "replace"
        else:
            self.skip("insert")
            way = self._taken_way()
        self.skip("into")
        table_name = self.take_name()
        if self.took("default", "values"):
            return Insert(way, table_name, None, None, None)
        columns = self.names_in_brackets() if self.is_at("(") else None
        if self.is_at("select"):
            return Insert(way, table_name, columns, None, self.read_select())
        self.skip("values")
        rows = [self._value_row()]
        while self.took(","):
            rows.append(self._value_row())
        return Insert(way, table_name, columns, rows, None)

    def _value_row(self):
        self.skip("(")
        nodes = self.expression_list()
        self.skip(")")
        return nodes

    def _update(self):
        way = self._taken_way()
        table_name = self.take_name()
        self.skip("set")
        assignments = [self._assignment()]
        while self.took(","):
            assignments.append(self._assignment())
        return Update(way, table_name, assignments, self.read_where())

    def _assignment(self):
        name = self.take_name()
        self.skip("=")
        return name, self.expression()

    def _create_table(self):
        if_not_exists = self.took("if", "not", "exists")
        mark = self.mark()
        create = CreateTable(self.take_name(), if_not_exists)
        self.skip("(")
        create.columns.append(self._column())
        while self.took(","):
            if create.constraint_count == 0 and not self.is_at("primary", "unique", "check"):
                create.columns.append(self._column())
            else:
                self._read_constraint(create)
        self.skip(")")
        create.text = self.text_since(mark)
        create.has_placeholder = "placeholder" in [token.kind for token in self.tokens_since(mark)]
        return create

    def _read_constraint(self, create):
        create.constraint_count += 1
        if self.took("primary", "key"):
            create.primaries.append(self.names_in_brackets())
        elif self.took("unique"):
            create.uniques.append(self.names_in_brackets())
        else:
            self.skip("check")
            create.checks.append(self.bracketed_expression())

    def _column(self):
        name = self.take_name()
        column = ColumnText(name, self._declared_kind())
        while self._read_column_part(column):
            pass
        return column

    def _declared_kind(self):
        mark = self.mark()
        while self.kind_ahead() == "name":
            self.taken()
        if self.tokens_since(mark) != [] and self.took("("):
            self._skip_signed_integer()
            if self.took(","):
                self._skip_signed_integer()
            self.skip(")")
        return self.text_since(mark)

    def _skip_signed_integer(self):
        is_behind_minus = self.took("-")
        if not is_behind_minus:
            self.took("+")
        self.integer(is_behind_minus)

    def _read_column_part(self, column):
        """Read a part of a column behind its declared kind; tell whether there is one."""
        if self.took("primary", "key"):
            column.is_primary = True
            column.has_autoincrement = self.took("autoincrement")
        elif self.took("not", "null"):
            column.is_not_null = True
        elif self.took("unique"):
            column.is_unique = True
        elif self.took("check"):
            column.checks.append(self.bracketed_expression())
        elif self.took("default"):
            column.default = self._default()
        elif self.took("collate"):
            column.collation_name = self.take_name()
        else:
            return False
        return True

    def _default(self):
        if self.is_at("("):
            return self.bracketed_expression()
        if self.is_at("+", "-"):
            sign = self.taken().word
            return Signed([sign], Literal(self.integer(sign == "-")))
        if self.took("null"):
            return Literal(None)
        if self.kind_ahead() == "text":
            return Literal(self.taken().value)
        return Literal(self.integer(False))
