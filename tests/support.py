"""What the tests share."""

import unittest

from cursorhouse.errors import Error
from cursorhouse.library import Library

ERROR = "OperationalError SQLITE_ERROR"
BUSY = "OperationalError SQLITE_BUSY"
LOCKED = "OperationalError SQLITE_LOCKED"
FULL = "OperationalError SQLITE_FULL"
MISMATCH = "IntegrityError SQLITE_MISMATCH"
NOT_NULL = "IntegrityError SQLITE_CONSTRAINT_NOTNULL"
CHECK = "IntegrityError SQLITE_CONSTRAINT_CHECK"
PRIMARY_KEY = "IntegrityError SQLITE_CONSTRAINT_PRIMARYKEY"
ROWID = "IntegrityError SQLITE_CONSTRAINT_ROWID"
UNIQUE = "IntegrityError SQLITE_CONSTRAINT_UNIQUE"
PROGRAMMING = "ProgrammingError None"
DATA = "DataError None"
INTERFACE = "InterfaceError None"


class DatabaseTest(unittest.TestCase):
    """A test with a library and a connection that leaves transactions alone."""

    def setUp(self):
        self.library = Library()
        self.db = self.connect()

    def connect(self, isolation_level=None, **more):
        return self.library.connect("db", isolation_level=isolation_level, **more)

    def run_all(self, *statements):
        for sql in statements:
            self.db.execute(sql)

    def rows(self, sql, parameters=()):
        return self.db.execute(sql, parameters).fetchall()

    def value(self, expression, parameters=()):
        (row,) = self.rows("select " + expression, parameters)
        (value,) = row
        return value

    def refused(self, wanted, function, *args, **more):
        """Check that a call raises just the error of a class and a name."""
        with self.assertRaises(Error) as caught:
            function(*args, **more)
        error = caught.exception
        self.assertEqual(f"{error.__class__.__name__} {error.sqlite_errorname}", wanted)

    def refuses(self, wanted, *statements):
        for sql in statements:
            with self.subTest(sql=sql):
                self.refused(wanted, self.db.execute, sql)

    def same_values(self, table):
        """Check a dict of expressions and their values."""
        for expression, wanted in table.items():
            with self.subTest(expression=expression):
                found = self.value(expression)
                self.assertEqual((found, type(found)), (wanted, type(wanted)))
