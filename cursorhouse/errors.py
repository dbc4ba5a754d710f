"""The classes of errors that the package raises, and the names that they carry."""

SQL_ERROR = "SQLITE_ERROR"
BUSY = "SQLITE_BUSY"
LOCKED = "SQLITE_LOCKED"
FULL = "SQLITE_FULL"
MISMATCH = "SQLITE_MISMATCH"
BROKEN_NOT_NULL = "SQLITE_CONSTRAINT_NOTNULL"
BROKEN_CHECK = "SQLITE_CONSTRAINT_CHECK"
BROKEN_PRIMARY_KEY = "SQLITE_CONSTRAINT_PRIMARYKEY"
BROKEN_ROWID = "SQLITE_CONSTRAINT_ROWID"
BROKEN_UNIQUE = "SQLITE_CONSTRAINT_UNIQUE"


class Error(Exception):
    """The class above all errors of the package."""

    def __init__(self, sqlite_errorname=None):
        self.sqlite_errorname = sqlite_errorname


class InterfaceError(Error):
    """The interface was used with a key or an object that it does not know."""

    def __init__(self, sqlite_errorname=None):
        super().__init__(sqlite_errorname)


class DatabaseError(Error):
    """Any error that comes from a database."""

    def __init__(self, sqlite_errorname=None):
        super().__init__(sqlite_errorname)


class DataError(DatabaseError):
    """A value lies beyond what a database stores."""

    def __init__(self, sqlite_errorname=None):
        super().__init__(sqlite_errorname)


class OperationalError(DatabaseError):
    """A statement cannot be prepared, a lock is refused, or a computation fails."""

    def __init__(self, sqlite_errorname=None):
        super().__init__(sqlite_errorname)


class IntegrityError(DatabaseError):
    """A row breaks a constraint of its table."""

    def __init__(self, sqlite_errorname=None):
        super().__init__(sqlite_errorname)


class InternalError(DatabaseError):
    """The database itself is out of order."""

    def __init__(self, sqlite_errorname=None):
        super().__init__(sqlite_errorname)


class ProgrammingError(DatabaseError):
    """A method was called at a wrong place or with wrong arguments."""

    def __init__(self, sqlite_errorname=None):
        super().__init__(sqlite_errorname)


class NotSupportedError(DatabaseError):
    """Something was asked for that there is not."""

    def __init__(self, sqlite_errorname=None):
        super().__init__(sqlite_errorname)


def require(holds):
    """Raise the error of a statement that cannot be prepared unless a condition holds."""
    if not holds:
        raise OperationalError(SQL_ERROR)
