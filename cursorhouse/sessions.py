"""What a connection does with its database: transactions, locks and counts."""

from cursorhouse.errors import BUSY, OperationalError, ProgrammingError, require
from cursorhouse.locks import (
    EXCLUSIVE, NO_LOCK, PENDING, RESERVED, SHARED, idle_lock, is_exclusive_refused, is_reserved_refused,
    is_shared_refused,
)
from cursorhouse.registry import Registry


class Counts:
    """The numbers that a connection counts."""

    def __init__(self):
        self.changed = 0
        self.total = 0
        self.last_rowid = 0


class Savepoint:
    """A savepoint: the tables and the number of pairs of the history when it was set."""

    def __init__(self, name, tables, pair_count):
        self.name = name
        self.tables = tables
        self.pair_count = pair_count


class Session:
    """One connection's side of its database.

    `held` is the lock, `opened` tells whether a transaction is open, `running` whether a method is being executed
    that may call functions from outside. `readers` is the number of cursors that read.
    """

    def __init__(self, database):
        self.database = database
        self.registry = Registry()
        self.counts = Counts()
        self.held = NO_LOCK
        self.opened = False
        self.running = False
        self.closed = False
        self.readers = 0
        # The own tables of a transaction that has changed some; else those of the database count.
        self._tables = None
        self._pairs = []
        self._savepoints = []
        self._opened_by_savepoint = False
        self._number = database.enrol(self)

    def seen_tables(self):
        """Return the tables as the connection sees them."""
        return self.database.tables if self._tables is None else self._tables

    def tables_to_read(self):
        """Take SHARED to read the tables, give it back unless a transaction keeps it, and return them."""
        before = self.held
        self.take_shared()
        if not self.opened:
            self.held = before
        return self.seen_tables()

    def require_ready(self):
        """Refuse a method or a property if the connection is closed or executes another one."""
        if self.closed or self.running:
            raise ProgrammingError()

    def lose_reader(self):
        """Note that one cursor less reads."""
        self.readers -= 1
        if not self.opened:
            self.held = idle_lock(self.readers > 0)

    def close(self):
        """Leave the database, and with it an open transaction and the locks."""
        self.closed = True
        self.database.dismiss(self._number)

    # Transactions

    def begin(self, level):
        """Open a transaction with the locks of a level."""
        require(not self.opened)
        before = self.held
        if level != "deferred":
            self.take_reserved()
        if level == "exclusive":
            if is_exclusive_refused(self._strongest_other()):
                self.held = before
                raise OperationalError(BUSY)
            self.held = EXCLUSIVE
        self.opened = True

    def commit(self):
        """Commit the open transaction."""
        require(self.opened)
        if self.held >= RESERVED:
            if is_exclusive_refused(self._strongest_other()):
                self.held = PENDING
                raise OperationalError(BUSY)
            self.database.committed(self.seen_tables(), self._pairs)
        self._end()

    def keep(self, tables, pair):
        """Make tables that a statement has changed, and its pair of the history, part of its transaction.

        Without an open transaction the statement is one of its own and is committed.
        """
        if self.opened:
            self._tables = tables
            self._pairs.append(pair)
            return
        if is_exclusive_refused(self._strongest_other()):
            raise OperationalError(BUSY)
        self.database.committed(tables, [pair])

    def roll_back(self):
        """Undo the open transaction."""
        require(self.opened)
        self._end()

    def _end(self):
        self.opened = False
        self._tables = None
        self._pairs = []
        self._savepoints = []
        self._opened_by_savepoint = False
        self.held = idle_lock(self.readers > 0)

    def control(self, plan):
        """Execute a transaction statement."""
        if plan.action == "begin":
            self.begin(plan.name)
        elif plan.action == "commit":
            self.commit()
        elif plan.action == "rollback":
            self.roll_back()
        elif plan.action == "savepoint":
            self._set_savepoint(plan.name)
        elif plan.action == "release":
            self._release(self._savepoint_index(plan.name))
        else:
            self._roll_back_to(self._savepoint_index(plan.name))

    def _set_savepoint(self, name):
        if not self.opened:
            self.opened = True
            self._opened_by_savepoint = True
        self._savepoints.append(Savepoint(name.lower(), self._tables, len(self._pairs)))

    def _savepoint_index(self, name):
        found = None
        for at, savepoint in enumerate(self._savepoints):
            if savepoint.name == name.lower():
                found = at
        require(found is not None)
        return found

    def _release(self, at):
        if at == 0 and self._opened_by_savepoint:
            self.commit()
        else:
            self._savepoints = self._savepoints[:at]

    def _roll_back_to(self, at):
        savepoint = self._savepoints[at]
        self._savepoints = self._savepoints[:at + 1]
        self._tables = savepoint.tables
        self._pairs = self._pairs[:savepoint.pair_count]

    # Locks

    def take_shared(self):
        """Take SHARED."""
        if is_shared_refused(self.held, self._strongest_other()):
            raise OperationalError(BUSY)
        self.held = max(self.held, SHARED)

    def take_reserved(self):
        """Take RESERVED; if it is refused, the lock is as before."""
        if is_reserved_refused(self._strongest_other()):
            raise OperationalError(BUSY)
        self.held = max(self.held, RESERVED)

    def _strongest_other(self):
        return self.database.strongest_other(self._number)
