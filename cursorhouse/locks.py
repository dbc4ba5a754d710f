"""The locks of a database, and when one is refused beside the strongest lock that another connection holds."""

NO_LOCK = 0
SHARED = 1
RESERVED = 2
PENDING = 3
EXCLUSIVE = 4


def is_shared_refused(held, other):
    """Tell whether a connection that holds a lock is refused SHARED."""
    return held < SHARED and other >= PENDING


def is_reserved_refused(held, other):
    """Tell whether a connection that holds a lock is refused RESERVED.

    Whatever refuses SHARED refuses RESERVED, too, so that SHARED need not be taken first.
    """
    return held < RESERVED and other >= RESERVED


def is_exclusive_refused(held, other):
    """Tell whether a connection that holds a lock is refused EXCLUSIVE."""
    return held < EXCLUSIVE and other >= SHARED


def idle_lock(is_reading):
    """Return the lock that a connection holds without a transaction."""
    return SHARED if is_reading else NO_LOCK
