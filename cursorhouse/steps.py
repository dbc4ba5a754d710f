"""The steps of scripts: where they may stand, and what they do to the locks."""

from cursorhouse.errors import ProgrammingError
from cursorhouse.locks import (
    EXCLUSIVE, NO_LOCK, PENDING, RESERVED, SHARED, idle_lock, is_exclusive_refused, is_reserved_refused,
    is_shared_refused,
)

MOST_SCRIPTS = 4
MOST_STEPS = 8
OPENING = ("begin", "immediate", "exclusive")
ENDING = ("commit", "rollback")
ANYWHERE = ("read", "write")


def checked_scripts(scripts):
    """Return any object as a list of tuples of steps; it has to be scripts."""
    if not isinstance(scripts, (list, tuple)) or not 1 <= len(scripts) <= MOST_SCRIPTS:
        raise ProgrammingError()
    return [_checked_script(script) for script in scripts]


def _checked_script(script):
    if not isinstance(script, (list, tuple)) or len(script) > MOST_STEPS:
        raise ProgrammingError()
    opened = False
    reads = False
    for step in script:
        if not _may_stand(step, opened, reads):
            raise ProgrammingError()
        opened = is_open_behind(step, opened)
        reads = is_reading_behind(step, reads)
    return tuple(script)


def _may_stand(step, opened, reads):
    if step in OPENING:
        return not opened
    if step in ENDING:
        return opened
    if step == "start":
        return not reads
    return reads if step == "stop" else step in ANYWHERE


def is_open_behind(step, opened):
    """Tell whether a transaction is open behind a step."""
    return step in OPENING or (opened and step not in ENDING)


def is_reading_behind(step, reads):
    """Tell whether the cursor reads behind a step."""
    return step == "start" or (reads and step != "stop")


def is_refused(step, opened, held, other):
    """Tell whether a step is refused to a connection that holds a lock, beside the strongest lock of another one."""
    if step == "commit":
        return held >= RESERVED and is_exclusive_refused(other)
    if step in ("read", "start"):
        return is_shared_refused(held, other)
    # Without a transaction a change is one of its own, which is committed at once.
    if step == "exclusive" or (step == "write" and not opened):
        return is_exclusive_refused(other)
    return step in ("immediate", "write") and is_reserved_refused(other)


def lock_of_refused(step, held):
    """Return the lock behind a step that was refused."""
    return max(held, PENDING) if step == "commit" else held


def lock_behind(step, opened, reads, held):
    """Return the lock behind a step that was not refused; `opened` and `reads` tell what is so behind it."""
    return max(held, _lock_taken(step)) if opened else idle_lock(reads)


def _lock_taken(step):
    if step == "exclusive":
        return EXCLUSIVE
    if step in ("immediate", "write"):
        return RESERVED
    return SHARED if step in ("read", "start") else NO_LOCK
