"""The functions of SQL, built in and from outside."""

from cursorhouse.collations import order_of
from cursorhouse.errors import SQL_ERROR, Error, OperationalError
from cursorhouse.formulas import first_collation
from cursorhouse.values import in_range, is_value, number_of, quoted, text_of


def _absolute(values):
    number = number_of(values[0])
    if number is None:
        return None
    if not in_range(abs(number)):
        raise OperationalError(SQL_ERROR)
    return abs(number)


def _length(values):
    return None if values[0] is None else len(text_of(values[0]))


def _lower(values):
    return None if values[0] is None else text_of(values[0]).lower()


def _upper(values):
    return None if values[0] is None else text_of(values[0]).upper()


def _position(values):
    if None in values:
        return None
    return text_of(values[0]).find(text_of(values[1])) + 1


def _replaced(values):
    whole, part, other = values
    if whole is None or part is None:
        return None
    if part == "":
        return whole
    if other is None:
        return None
    return text_of(whole).replace(text_of(part), text_of(other))


def _quote(values):
    return quoted(values[0])


def _storage_class(values):
    if values[0] is None:
        return "null"
    return "text" if isinstance(values[0], str) else "integer"


# The numbers of arguments, and functions of the list of their values.
PLAIN = {
    "abs": (1, _absolute), "length": (1, _length), "lower": (1, _lower), "upper": (1, _upper),
    "instr": (2, _position), "replace": (3, _replaced), "quote": (1, _quote), "typeof": (1, _storage_class),
}


def built_in_compute(name, parts, scope):
    """Return the function of a frame for a built-in function and its prepared arguments, None if there is none."""
    count = len(parts)
    if name in PLAIN:
        wanted, function = PLAIN[name]
        return _plain_compute(function, parts) if count == wanted else None
    if (name == "coalesce" and count >= 2) or (name == "ifnull" and count == 2):
        return _first_not_null(parts)
    if name == "nullif" and count == 2:
        return _null_if(parts, first_collation(parts, scope.collation_named("BINARY")))
    if name in ("min", "max") and count >= 2:
        sign = 1 if name == "min" else -1
        return _extreme(parts, first_collation(parts, scope.collation_named("BINARY")), sign)
    if count == 0:
        return _counter(name, scope.preparation.counts)
    return None


def _plain_compute(function, parts):
    return lambda frame: function([part.compute(frame) for part in parts])


def _first_not_null(parts):
    def compute(frame):
        for part in parts:
            value = part.compute(frame)
            if value is not None:
                return value
        return None

    return compute


def _null_if(parts, collation):
    def compute(frame):
        one, other = [part.compute(frame) for part in parts]
        if one is not None and other is not None and order_of(one, other, collation) == 0:
            return None
        return one

    return compute


def _extreme(parts, collation, sign):
    def compute(frame):
        values = [part.compute(frame) for part in parts]
        return None if None in values else values[first_extreme(values, collation, sign)]

    return compute


def first_extreme(values, collation, sign):
    """Return the index of the first least (sign 1) or greatest (sign -1) value that is not NULL, else None."""
    best = None
    for at, value in enumerate(values):
        if value is None:
            continue
        if best is None or order_of(value, values[best], collation) * sign < 0:
            best = at
    return best


def _counter(name, counts):
    if name == "changes":
        return lambda frame: counts.changed
    if name == "total_changes":
        return lambda frame: counts.total
    if name == "last_insert_rowid":
        return lambda frame: counts.last_rowid
    return None


def outside_compute(function, parts):
    """Return the function of a frame for a function from outside and its prepared arguments."""
    return lambda frame: outside_value(function, [part.compute(frame) for part in parts])


def outside_value(function, arguments):
    """Call a function from outside and return its result as a value."""
    try:
        result = function(*arguments)
    except (Error, KeyError, ZeroDivisionError):
        raise OperationalError(SQL_ERROR) from None
    if isinstance(result, bool):
        return 1 if result else 0
    if not is_value(result):
        raise OperationalError(SQL_ERROR)
    return result
