"""Adapters of parameters and converters of results, which a library has for all of its connections."""

from cursorhouse.errors import DataError, ProgrammingError
from cursorhouse.values import in_range

KINDS = ("int", "str", "bool", "list", "tuple", "dict")


class Conversions:
    """The adapters by kinds, and the converters by names in small letters."""

    def __init__(self):
        self._adapters = {}
        self._converters = {}

    def set_adapter(self, kind, function):
        """Set the adapter of a kind, None removes it."""
        if kind not in KINDS:
            raise ProgrammingError()
        self._adapters[kind] = function

    def set_converter(self, name, function):
        """Set the converter of a name, None removes it."""
        self._converters[name.lower()] = function

    def converter(self, name):
        """Return the converter of a name, or None."""
        return self._converters.get(name.lower())

    def adapted(self, given):
        """Return the value that an object is bound as."""
        adapter = self._adapters.get(_kind_of(given))
        return _checked_value(given if adapter is None else adapter(given))


def _kind_of(given):
    if isinstance(given, bool):
        return "bool"
    if isinstance(given, int):
        return "int"
    if isinstance(given, str):
        return "str"
    if isinstance(given, list):
        return "list"
    if isinstance(given, tuple):
        return "tuple"
    return "dict" if isinstance(given, dict) else ""


def _checked_value(value):
    if value is None or isinstance(value, str):
        return value
    if isinstance(value, bool):
        return 1 if value else 0
    if not isinstance(value, int):
        raise ProgrammingError()
    if not in_range(value):
        raise DataError()
    return value


def bound_values(placeholders, count, parameters, conversions):
    """Return the tuple of the values for the numbers 1 to count."""
    if isinstance(parameters, dict):
        given = _values_by_names(placeholders, count, parameters)
    elif isinstance(parameters, (list, tuple)):
        given = _values_by_places(placeholders, count, parameters)
    else:
        raise ProgrammingError()
    return tuple([conversions.adapted(value) for value in given])


def _values_by_places(placeholders, count, parameters):
    named = [text for _, text in placeholders if not text.startswith("?")]
    if len(parameters) != count or named != []:
        raise ProgrammingError()
    return list(parameters)


def _values_by_names(placeholders, count, parameters):
    names = {}
    for number, text in placeholders:
        if text != "?":
            names.setdefault(number, text[1:])
    given = []
    for number in range(1, count + 1):
        if number not in names or names[number] not in parameters:
            raise ProgrammingError()
        given.append(parameters[names[number]])
    return given


def column_converters(query, conversions, by_kinds, by_names):
    """Return the list of the converters of the columns of a select, None where there is none."""
    converters = []
    for name, declared in zip(query.names, query.declared):
        found = None
        if by_names:
            found = _converter_in_name(name, conversions)
        if found is None and by_kinds and declared is not None:
            found = _converter_of_kind(declared, conversions)
        converters.append(found)
    return converters


def _converter_in_name(name, conversions):
    start = name.find("[")
    end = name.find("]", start)
    if start < 0 or end < 0:
        return None
    return conversions.converter(name[name.rfind("[", 0, end) + 1:end])


def _converter_of_kind(declared, conversions):
    if declared == "":
        return None
    return conversions.converter(declared.partition(" ")[0].partition("(")[0])


def converted_rows(rows, converters):
    """Return rows in which each value that is not NULL has been converted, if its column has a converter."""
    return [_converted_row(row, converters) for row in rows]


def _converted_row(row, converters):
    cells = []
    for value, converter in zip(row, converters):
        if value is not None and converter is not None:
            value = converter(str(value))
        cells.append(value)
    return tuple(cells)


def shown_name(name):
    """Return the name of a result column as it is shown if names may tell converters."""
    at = name.find("[")
    if at < 0:
        return name
    shown = name[:at]
    return shown[:-1] if shown.endswith(" ") else shown
