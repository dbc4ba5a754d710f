"""Connections, which control transactions and make cursors."""

from cursorhouse.cursors import Cursor
from cursorhouse.dumping import dump_lines
from cursorhouse.errors import Error, ProgrammingError
from cursorhouse.registry import MOST_ARGUMENTS, Outside
from cursorhouse.settings import checked_level, checked_mode
from cursorhouse.values import is_plain_int


class Connection:
    """A connection to a database, made by a library."""

    def __init__(self, session, settings):
        self.row_factory = None
        self._session = session
        self._settings = settings

    @property
    def isolation_level(self):
        """The isolation level: None or a string in capital letters."""
        self._session.require_ready()
        return self._settings.level

    @property
    def autocommit(self):
        """The mode of autocommit: -1, True or False."""
        self._session.require_ready()
        return self._settings.mode

    @property
    def in_transaction(self):
        """Whether a transaction is open."""
        self._session.require_ready()
        return self._session.opened

    @property
    def total_changes(self):
        """The number of all rows that were inserted, updated or deleted."""
        self._session.require_ready()
        return self._session.counts.total

    @property
    def lock(self):
        """The lock that the connection holds, from 0 (none) to 4."""
        self._session.require_ready()
        return self._session.held

    def set_isolation_level(self, level):
        """Set the isolation level; None also commits."""
        self._session.require_ready()
        settings = self._settings
        settings.level = checked_level(level)
        if level is None:
            self.commit()

    def set_autocommit(self, mode):
        """Set the mode of autocommit; True also commits, False also opens a transaction."""
        self._session.require_ready()
        settings = self._settings
        settings.mode = checked_mode(mode)
        if settings.mode is True and self._session.opened:
            self._session.commit()
        if settings.mode is False and not self._session.opened:
            self._session.begin("deferred")

    def set_row_factory(self, factory):
        """Set the row factory of the cursors that are created later."""
        self._session.require_ready()
        self.row_factory = factory

    def cursor(self):
        """Return a new cursor."""
        self._session.require_ready()
        return Cursor(self, self._session, self._settings, self.row_factory)

    def execute(self, sql, parameters=()):
        """Execute one statement with a new cursor and return the cursor."""
        return self.cursor().execute(sql, parameters)

    def executemany(self, sql, sets):
        """Execute a change for a list of parameters with a new cursor and return the cursor."""
        return self.cursor().executemany(sql, sets)

    def executescript(self, sql):
        """Execute all statements of a text with a new cursor and return the cursor."""
        return self.cursor().executescript(sql)

    def commit(self):
        """Commit as the mode of autocommit has it."""
        self._session.require_ready()
        if self._settings.is_legacy():
            if self._session.opened:
                self._session.commit()
        elif self._settings.mode is False:
            self._session.commit()
            self._session.begin("deferred")

    def rollback(self):
        """Roll back as the mode of autocommit has it."""
        self._session.require_ready()
        if self._settings.is_legacy():
            if self._session.opened:
                self._session.roll_back()
        elif self._settings.mode is False:
            self._session.roll_back()
            self._session.begin("deferred")

    def close(self):
        """Undo an open transaction and close the connection."""
        if self._session.closed:
            return
        self._session.require_ready()
        self._session.close()

    def enter(self):
        """Return the connection, as the beginning of a `with` block does."""
        self._session.require_ready()
        return self

    def leave(self, failed):
        """Commit or roll back, as the end of a `with` block does, and return False."""
        if failed:
            self.rollback()
        else:
            self._commit_or_roll_back()
        return False

    def _commit_or_roll_back(self):
        try:
            self.commit()
        except Error:
            self.rollback()
            raise

    def iterdump(self):
        """Return the list of the statements that create the tables as the connection sees them."""
        self._session.require_ready()
        return dump_lines(self._session.tables_to_read())

    def create_function(self, name, narg, function):
        """Give the statements a function, None removes it."""
        self._set_call(name, narg, None if function is None else Outside(False, function))

    def create_aggregate(self, name, narg, function):
        """Give the statements an aggregate, None removes it."""
        self._set_call(name, narg, None if function is None else Outside(True, function))

    def create_collation(self, name, function):
        """Set a collation, None removes it."""
        self._session.require_ready()
        self._session.registry.set_collation(name, function)

    def _set_call(self, name, narg, outside):
        self._session.require_ready()
        if not is_plain_int(narg) or not -1 <= narg <= MOST_ARGUMENTS:
            raise ProgrammingError()
        self._session.registry.set_call(name, narg, outside)
