"""How the rows of a prepared select are determined."""

from cursorhouse.errors import MISMATCH, IntegrityError
from cursorhouse.sorting import distinct_rows, grouped, ordered
from cursorhouse.values import as_integer, is_plain_int, is_true


class Join:
    """A source that is combined with those before it; `condition` is the formula of its `on`, or None."""

    def __init__(self, table_name, width, is_left, condition):
        self.table_name = table_name
        self.is_left = is_left
        self.condition = condition
        self.empty_row = (None,) * (width + 1)


class Query:
    """A prepared select.

    `names` and `declared` tell the name and the declared kind of each result column (None if it is no column).
    `groups` is None unless rows are grouped.
    """

    family = "select"

    def __init__(self, names, declared, formulas):
        self.names = names
        self.declared = declared
        self.formulas = formulas
        self.joins = []
        self.where = None
        self.groups = None
        self.aggregates = None
        self.having = None
        self.distinct_collations = None
        self.terms = []
        self.limit = None
        self.offset = None

    def has_sources(self):
        """Tell whether the select reads tables."""
        return self.joins != []

    def result_rows(self, tables):
        """Return the list of the result rows for a state of the tables."""
        limit = _row_limit(self.limit, -1)
        offset = _row_limit(self.offset, 0)
        frames = _joined_frames(self.joins, tables)
        if self.where is not None:
            frames = [frame for frame in frames if is_true(self.where.compute(frame))]
        if self.groups is not None:
            frames = self._group_frames(frames)
        formulas = self.formulas
        rows = [(tuple([formula.compute(frame) for formula in formulas]), frame) for frame in frames]
        if self.distinct_collations is not None:
            rows = distinct_rows(rows, self.distinct_collations)
        rows = ordered(rows, self.terms)[max(0, offset):]
        if limit >= 0:
            rows = rows[:limit]
        return [values for values, _ in rows]

    def _group_frames(self, frames):
        made = []
        for group in grouped(frames, self.groups):
            outcomes, chosen = self.aggregates.outcomes(group)
            rows = self._empty_frame() if chosen is None else chosen
            made.append((*rows, outcomes))
        if self.having is None:
            return made
        return [frame for frame in made if is_true(self.having.compute(frame))]

    def _empty_frame(self):
        return tuple([join.empty_row for join in self.joins])


def _row_limit(formula, otherwise):
    if formula is None:
        return otherwise
    value = as_integer(formula.compute(()))
    if not is_plain_int(value):
        raise IntegrityError(MISMATCH)
    return value


def _joined_frames(joins, tables):
    frames = [()]
    for join in joins:
        frames = _widened_frames(frames, join, tables[join.table_name].ordered_rows())
    return frames


def _widened_frames(frames, join, rows):
    wider = []
    for frame in frames:
        matches = [(*frame, row) for row in rows]
        if join.condition is not None:
            matches = [match for match in matches if is_true(join.condition.compute(match))]
        if matches == [] and join.is_left:
            matches = [(*frame, join.empty_row)]
        wider += matches
    return wider
