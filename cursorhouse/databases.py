"""Databases: their committed tables, their history, and the connections that hold locks."""

from cursorhouse.locks import NO_LOCK


class Database:
    """A database. The dict of tables is never changed, but replaced by another one.

    `transactions` is the history: a list of tuples of pairs of a text and the values of its parameters.
    """

    def __init__(self):
        self.tables = {}
        self.transactions = []
        self._sessions = {}
        self._count = 0

    def enrol(self, session):
        """Note a session as one that may hold locks, and return its number."""
        self._count += 1
        self._sessions[self._count] = session
        return self._count

    def dismiss(self, number):
        """Forget the session with a number."""
        self._sessions.pop(number, None)

    def strongest_other(self, number):
        """Return the strongest lock that a session with another number holds."""
        others = [session.held for at, session in self._sessions.items() if at != number]
        return max(others, default=NO_LOCK)

    def committed(self, tables, pairs):
        """Replace the committed tables, and note the transaction unless it has no pairs."""
        self.tables = tables
        if pairs != []:
            self.transactions.append(tuple(pairs))
