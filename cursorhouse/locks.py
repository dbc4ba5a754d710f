"""The locks of a database, and when one is refused beside the strongest lock that another connection holds."""

NO_LOCK = 0
SHARED = 1
RESERVED = 2
PENDING = 3
EXCLUSIVE = 4


def is_shared_refused(held, other):
    """Tell whether a connection that holds a lock is refused SHARED."""
    return held < SHARED and other >= PENDING


def is_reserved_refused(other):
    """Tell whether a connection is refused RESERVED.

    One that holds it is not: no two connections hold RESERVED or more. Whatever refuses SHARED refuses RESERVED, too,
    so that SHARED need not be taken first.
    """
    return other >= RESERVED


def is_exclusive_refused(other):
    """Tell whether a connection is refused EXCLUSIVE; beside one that holds it no other one holds a lock."""
    return other >= SHARED


def idle_lock(is_reading):
    """Return the lock that a connection holds without a transaction."""
    return SHARED if is_reading else NO_LOCK
