"""Executing prepared statements: with their locks, and committed if no transaction is open."""

from cursorhouse.errors import LOCKED, IntegrityError, OperationalError


def query_rows(session, query, convert, is_kept):
    """Return the converted rows of a select; if they are kept, the connection has one more cursor that reads them."""
    before = session.held
    if query.has_sources():
        session.take_shared()
    kept = session.held if session.opened else before
    try:
        rows = convert(query.result_rows(session.seen_tables()))
        if is_kept and query.has_sources() and rows != []:
            session.readers += 1
            kept = session.held
    finally:
        session.held = kept
    return rows


def run_plan(session, plan, pair):
    """Execute a statement other than a select and return the number of rows of a change, else 0.

    The pair, the statement's text and its values, is what the history tells of it.
    """
    if plan.family == "change":
        return _run_change(session, plan, pair)
    if plan.family == "control":
        session.control(plan)
    elif plan.family != "nothing":
        _run_definition(session, plan, pair)
    return 0


def _run_change(session, plan, pair):
    before = session.held
    session.take_reserved()
    kept = session.held if session.opened else before
    counts = session.counts
    counted = 0
    tables = session.seen_tables()
    try:
        outcome = plan.run(tables[plan.table_name].twin(), tables, counts)
        if outcome.broken is None or plan.way == "fail":
            session.keep(_with_table(tables, plan.table_name, outcome.table), pair)
            counted = outcome.count
        elif plan.way == "rollback" and session.opened:
            session.roll_back()
            kept = session.held
    finally:
        session.held = kept
        counts.changed = counted
        counts.total += counted
    if outcome.broken is not None:
        raise IntegrityError(outcome.broken)
    return counted


def _run_definition(session, plan, pair):
    before = session.held
    session.take_reserved()
    kept = session.held if session.opened else before
    try:
        if plan.family == "create":
            tables = _with_table(session.seen_tables(), plan.table_name, plan.new_table())
        else:
            if session.readers > 0:
                raise OperationalError(LOCKED)
            tables = {name: table for name, table in session.seen_tables().items() if name != plan.table_name}
        session.keep(tables, pair)
    finally:
        session.held = kept


def _with_table(tables, name, table):
    changed = dict(tables)
    changed[name] = table
    return changed
