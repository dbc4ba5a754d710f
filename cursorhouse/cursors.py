"""Cursors, which execute statements and fetch their rows."""

from cursorhouse.conversions import bound_values, column_converters, converted_rows, shown_name
from cursorhouse.errors import ProgrammingError
from cursorhouse.execution import query_rows, run_plan
from cursorhouse.rows import Row
from cursorhouse.statements import first_group, prepared_statement, token_groups
from cursorhouse.tokens import scan
from cursorhouse.values import in_range, is_plain_int


class Cursor:
    """A cursor of a connection; its session and settings are those of the connection."""

    def __init__(self, connection, session, settings, row_factory):
        self.connection = connection
        self.description = None
        self.rowcount = -1
        self.lastrowid = None
        self.arraysize = 1
        self.row_factory = row_factory
        self._session = session
        self._settings = settings
        self._closed = False
        self._is_reading = False
        self._rows = []
        self._at = 0

    def set_arraysize(self, size):
        """Set how many rows `fetchmany` returns if it is not told."""
        self._require_ready()
        self.arraysize = _checked_size(size)

    def set_row_factory(self, factory):
        """Set what makes the rows: None, "Row", or a function of the cursor and the tuple."""
        self._require_ready()
        self.row_factory = factory

    def execute(self, sql, parameters=()):
        """Execute one statement and return the cursor."""
        self._start_anew()
        session = self._session
        session.running = True
        try:
            statement = self._first_statement(sql)
            if statement is not None:
                self._begin_ahead_of(statement)
                self._execute_bound(statement, parameters)
        finally:
            session.running = False
        return self

    def executemany(self, sql, sets):
        """Execute a change once for each element of a list of parameters and return the cursor."""
        self._start_anew()
        session = self._session
        session.running = True
        try:
            statement = self._first_statement(sql)
            if statement is None or statement.plan.family != "change":
                raise ProgrammingError()
            self._begin_ahead_of(statement)
            count = 0
            for parameters in list(sets):
                count += self._run_bound(statement, parameters)
            self.rowcount = count
        finally:
            session.running = False
        return self

    def executescript(self, sql):
        """Execute all statements of a text and return the cursor."""
        self._require_ready()
        session = self._session
        if self._settings.is_legacy() and session.opened:
            session.commit()
        session.running = True
        try:
            for tokens in token_groups(scan(sql)):
                self._run_unbound(prepared_statement(session, sql, tokens))
        finally:
            session.running = False
        return self

    def fetchone(self):
        """Return the next row, or None."""
        self._require_ready()
        rows = self._fetched(1)
        return rows[0] if rows != [] else None

    def fetchmany(self, size=None):
        """Return the list of the next rows, as many as asked for at most."""
        self._require_ready()
        return self._fetched(self.arraysize if size is None else _checked_size(size))

    def fetchall(self):
        """Return the list of all rows that are left."""
        self._require_ready()
        return self._fetched(len(self._rows))

    def close(self):
        """Close the cursor."""
        self._session.require_ready()
        self._forget_rows()
        self._closed = True

    def _require_ready(self):
        self._session.require_ready()
        if self._closed:
            raise ProgrammingError()

    def _start_anew(self):
        self._require_ready()
        self._forget_rows()
        self.description = None
        self.rowcount = -1

    def _forget_rows(self):
        self._rows = []
        self._at = 0
        self._stop_reading()

    def _stop_reading(self):
        if self._is_reading:
            self._is_reading = False
            self._session.lose_reader()

    def _first_statement(self, sql):
        tokens, has_more = first_group(scan(sql))
        if tokens == []:
            return None
        statement = prepared_statement(self._session, sql, tokens)
        if has_more:
            raise ProgrammingError()
        return statement

    def _begin_ahead_of(self, statement):
        level = self._settings.begin_level()
        if statement.plan.family == "change" and level is not None and not self._session.opened:
            self._session.begin(level)

    def _execute_bound(self, statement, parameters):
        plan = statement.plan
        if plan.family == "select":
            self._execute_query(statement, parameters)
        else:
            count = self._run_bound(statement, parameters)
            if plan.family == "change":
                self.rowcount = count
        self.lastrowid = self._session.counts.last_rowid

    def _execute_query(self, statement, parameters):
        query = statement.plan
        settings = self._settings
        statement.bind(self._bound(statement, parameters))
        converters = column_converters(query, settings.conversions, settings.reads_kinds, settings.reads_names)
        self._rows = query_rows(self._session, query, lambda rows: converted_rows(rows, converters), True)
        self._is_reading = query.has_sources() and self._rows != []
        names = [shown_name(name) if settings.reads_names else name for name in query.names]
        self.description = tuple([(name, None, None, None, None, None, None) for name in names])

    def _bound(self, statement, parameters):
        return bound_values(statement.placeholders, statement.value_count, parameters, self._settings.conversions)

    def _run_bound(self, statement, parameters):
        values = self._bound(statement, parameters)
        statement.bind(values)
        return run_plan(self._session, statement.plan, (statement.text, values))

    def _run_unbound(self, statement):
        values = (None,) * statement.value_count
        statement.bind(values)
        if statement.plan.family == "select":
            query_rows(self._session, statement.plan, lambda rows: rows, False)
        else:
            run_plan(self._session, statement.plan, (statement.text, values))

    def _fetched(self, size):
        rows = self._rows[self._at:self._at + size]
        return [self._next_row() for _ in rows]

    def _next_row(self):
        row = self._rows[self._at]
        self._at += 1
        # The cursor reads no more even if the row factory fails.
        if self._at == len(self._rows):
            self._stop_reading()
        if self.row_factory is None:
            return row
        if self.row_factory == "Row":
            return Row([column[0] for column in self.description], row)
        return self._made_row(self.row_factory, row)

    def _made_row(self, factory, row):
        session = self._session
        session.running = True
        try:
            return factory(self, row)
        finally:
            session.running = False


def _checked_size(size):
    if not is_plain_int(size) or size < 0 or not in_range(size):
        raise ProgrammingError()
    return size
