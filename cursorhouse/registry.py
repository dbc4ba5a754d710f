"""What a connection gives its statements from outside: functions, aggregates and collations."""

from cursorhouse.collations import Collation, built_in_collation

MOST_ARGUMENTS = 9


class Outside:
    """A function or an aggregate from outside."""

    def __init__(self, is_aggregate, function):
        self.is_aggregate = is_aggregate
        self.function = function


class Registry:
    """The functions, aggregates and collations of a connection, by their names in small letters."""

    def __init__(self):
        self._calls = {}
        self._collations = {}

    def set_call(self, name, narg, outside):
        """Set a function or an aggregate, None removes it."""
        self._calls[(name.lower(), narg)] = outside

    def set_collation(self, name, function):
        """Set a collation, None removes it."""
        self._collations[name.lower()] = None if function is None else Collation(None, function)

    def outside(self, name, count):
        """Return the function or aggregate for a call with so many arguments, or None."""
        key = name.lower()
        exact = self._calls.get((key, count))
        if exact is not None or count > MOST_ARGUMENTS:
            return exact
        return self._calls.get((key, -1))

    def collation_named(self, name):
        """Return the collation of a name, or None."""
        found = self._collations.get(name.lower())
        return built_in_collation(name.lower()) if found is None else found
