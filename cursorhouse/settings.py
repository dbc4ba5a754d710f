"""How a connection controls its transactions, and converts results."""

from cursorhouse.errors import ProgrammingError
from cursorhouse.values import is_plain_int

LEVELS = ("", "DEFERRED", "IMMEDIATE", "EXCLUSIVE")
LEGACY = -1
KINDS_BIT = 1
NAMES_BIT = 2


class Settings:
    """The isolation level (a string or None), the mode of autocommit (-1, True or False), and the conversions.

    `reads_kinds` and `reads_names` tell whether declared kinds and names of columns choose converters.
    """

    def __init__(self, level, mode, detect_types, conversions):
        self.level = checked_level(level)
        self.mode = checked_mode(mode)
        self.reads_kinds = detect_types & KINDS_BIT != 0
        self.reads_names = detect_types & NAMES_BIT != 0
        self.conversions = conversions

    def is_legacy(self):
        """Tell whether the isolation level controls transactions."""
        return self.mode is not True and self.mode is not False

    def begin_level(self):
        """Return the level of the `begin` ahead of a change in small letters, None if there is no such `begin`."""
        if not self.is_legacy() or self.level is None:
            return None
        return "deferred" if self.level == "" else self.level.lower()


def checked_level(level):
    """Return an isolation level as it is kept."""
    if level is None:
        return None
    if not isinstance(level, str) or level.upper() not in LEVELS:
        raise ProgrammingError()
    return level.upper()


def checked_mode(mode):
    """Return a mode of autocommit as it is kept."""
    if mode is True or mode is False:
        return mode
    if not is_plain_int(mode) or mode != LEGACY:
        raise ProgrammingError()
    return LEGACY
