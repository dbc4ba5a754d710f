"""Libraries of databases, and replaying their histories."""

from cursorhouse.connections import Connection
from cursorhouse.conversions import Conversions
from cursorhouse.databases import Database
from cursorhouse.errors import IntegrityError
from cursorhouse.execution import run_plan
from cursorhouse.sessions import Session
from cursorhouse.settings import Settings
from cursorhouse.statements import prepared_statement
from cursorhouse.tokens import scan

PARSE_DECLTYPES = 1
PARSE_COLNAMES = 2
LEGACY_TRANSACTION_CONTROL = -1
PRIVATE_NAME = ":memory:"


class Library:
    """Databases by their names, with the adapters and converters of all connections to them."""

    def __init__(self):
        self._databases = {}
        self._conversions = Conversions()

    def connect(self, database, *, isolation_level="", autocommit=-1, detect_types=0):
        """Return a new connection to the database of this name."""
        settings = Settings(isolation_level, autocommit, detect_types, self._conversions)
        session = Session(self._database(database))
        if settings.mode is False:
            session.begin("deferred")
        return Connection(session, settings)

    def register_adapter(self, kind, function):
        """Set the adapter of a kind of objects, None removes it."""
        self._conversions.set_adapter(kind, function)

    def register_converter(self, name, function):
        """Set the converter of a name, None removes it."""
        self._conversions.set_converter(name, function)

    def history(self, database):
        """Return the list of the transactions that were committed to the database of this name."""
        if database not in self._databases:
            return []
        return list(self._databases[database].transactions)

    def _database(self, name):
        if name == PRIVATE_NAME:
            return Database()
        return self._databases.setdefault(name, Database())


def replay(history):
    """Return a connection to a new database in which the transactions of a history have been executed."""
    session = Session(Database())
    for pairs in history:
        session.begin("deferred")
        for sql, values in pairs:
            _replay_statement(session, sql, tuple(values))
        session.commit()
    return Connection(session, Settings(None, LEGACY_TRANSACTION_CONTROL, 0, Conversions()))


def _replay_statement(session, sql, values):
    statement = prepared_statement(session, sql, scan(sql))
    statement.bind(values)
    try:
        run_plan(session, statement.plan, (statement.text, values))
    except IntegrityError:
        # The history tells only of errors of the way `fail`, which left earlier rows behind.
        return
