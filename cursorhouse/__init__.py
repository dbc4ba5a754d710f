"""Cursorhouse: Python's module sqlite3, with its SQL and its locks, in Python."""
