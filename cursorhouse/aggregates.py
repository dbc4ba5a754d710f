"""Aggregates: what is computed over the combinations of a group."""

from cursorhouse.collations import sort_keys
from cursorhouse.errors import SQL_ERROR, OperationalError
from cursorhouse.functions import first_extreme, outside_value
from cursorhouse.values import in_range, number_of, text_of

# The least and the greatest number of arguments of each built-in aggregate.
ARGUMENT_COUNTS = {"count": (0, 1), "sum": (1, 1), "min": (1, 1), "max": (1, 1), "group_concat": (1, 2)}


class Aggregate:
    """An aggregate of a SELECT: `key` tells which ones are equal, `parts` are the prepared arguments.

    `act` is a function of the list of the tuples of the arguments' values, one for each combination; a `sign` marks a
    `min` or `max`, whose `collation` chooses the combination that stands for the group.
    """

    def __init__(self, key, parts, act, sign=0, collation=None):
        self.key = key
        self.parts = parts
        self.act = act
        self.sign = sign
        self.collation = collation

    def outcome(self, frames):
        """Return the value over some combinations, and the index of the chosen one or None."""
        parts = self.parts
        rows = [tuple([part.compute(frame) for part in parts]) for frame in frames]
        if self.sign == 0:
            return self.act(rows), None
        values = [row[0] for row in rows]
        best = first_extreme(values, self.collation, self.sign)
        return (None, None) if best is None else (values[best], best)


class AggregateList:
    """The different aggregates of a SELECT."""

    def __init__(self):
        self.members = []

    def placed(self, aggregate):
        """Add an aggregate unless there is an equal one, and return its place in the list."""
        for at, member in enumerate(self.members):
            if member.key == aggregate.key:
                return at
        self.members.append(aggregate)
        return len(self.members) - 1

    def outcomes(self, frames):
        """Return the values over a group, and the combination that stands for it (None: there is none)."""
        told = [member.outcome(frames) for member in self.members]
        chosen = [index for member, (_, index) in zip(self.members, told) if member.sign != 0]
        at = 0
        if len(chosen) == 1 and chosen[0] is not None:
            at = chosen[0]
        return tuple([value for value, _ in told]), (frames[at] if frames != [] else None)


def is_built_in_aggregate(name, count):
    """Tell whether a built-in aggregate has this name in small letters and takes so many arguments."""
    if name not in ARGUMENT_COUNTS:
        return False
    least, most = ARGUMENT_COUNTS[name]
    return least <= count <= most


def built_in_aggregate(name, key, parts, is_distinct, binary):
    """Return the Aggregate for a built-in one."""
    collation = parts[0].own_collation(binary) if parts != [] else binary
    if name == "min":
        return Aggregate(key, parts, None, 1, collation)
    if name == "max":
        return Aggregate(key, parts, None, -1, collation)
    if name == "sum":
        return Aggregate(key, parts, _sum)
    if name == "group_concat":
        return Aggregate(key, parts, _joined)
    if is_distinct:
        return Aggregate(key, parts, lambda rows: _distinct_count(rows, collation))
    return Aggregate(key, parts, _row_count if parts == [] else _count)


def outside_aggregate(key, parts, function):
    """Return the Aggregate for one from outside."""
    return Aggregate(key, parts, lambda rows: outside_value(function, [rows]))


def _row_count(rows):
    """Return the number of rows."""
    return len(rows)


def _count(rows):
    return len([row for row in rows if row[0] is not None])


def _distinct_count(rows, collation):
    keys = sort_keys([row[0] for row in rows if row[0] is not None], collation)
    return len({key: True for key in keys})


def _sum(rows):
    total = None
    for row in rows:
        number = number_of(row[0])
        if number is None:
            continue
        total = number if total is None else total + number
        if not in_range(total):
            raise OperationalError(SQL_ERROR)
    return total


def _joined(rows):
    text = None
    for row in rows:
        if row[0] is None:
            continue
        between = row[1] if len(row) == 2 else ","
        between = "" if between is None else text_of(between)
        text = text_of(row[0]) if text is None else text + between + text_of(row[0])
    return text
