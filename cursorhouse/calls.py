"""Calls of functions and aggregates in SQL expressions."""

from cursorhouse.aggregates import built_in_aggregate, is_built_in_aggregate, outside_aggregate
from cursorhouse.errors import SQL_ERROR, OperationalError
from cursorhouse.formulas import Formula, first_forced
from cursorhouse.functions import built_in_compute, outside_compute
from cursorhouse.nodes import Node
from cursorhouse.values import NONE


class Call(Node):
    """A call; equal calls have the same `key`."""

    def __init__(self, name, arguments, is_distinct, key):
        self.name = name.lower()
        self.arguments = arguments
        self.is_distinct = is_distinct
        self.key = key

    def prepared(self, scope):
        """Return the formula of the call, whether of a function or of an aggregate."""
        count = len(self.arguments)
        outside = scope.preparation.outside(self.name, count)
        if outside is not None and self.is_distinct:
            raise OperationalError(SQL_ERROR)
        if outside is None and is_built_in_aggregate(self.name, count):
            return self._built_in_aggregate(scope)
        if outside is not None and outside.is_aggregate:
            parts = self._parts(scope.inside_aggregate())
            return _aggregate_formula(scope, outside_aggregate(self.key, parts, outside.function))
        parts = self._parts(scope)
        if outside is not None:
            compute = outside_compute(outside.function, parts)
        else:
            compute = built_in_compute(self.name, parts, scope)
        if compute is None:
            raise OperationalError(SQL_ERROR)
        return Formula(compute, NONE, first_forced(parts))

    def _parts(self, scope):
        return [argument.prepared(scope) for argument in self.arguments]

    def _built_in_aggregate(self, scope):
        parts = self._parts(scope.inside_aggregate())
        binary = scope.collation_named("BINARY")
        return _aggregate_formula(scope, built_in_aggregate(self.name, self.key, parts, self.is_distinct, binary))


def _aggregate_formula(scope, aggregate):
    if scope.aggregates is None:
        raise OperationalError(SQL_ERROR)
    place = scope.aggregates.placed(aggregate)
    behind = len(scope.sources)
    return Formula(lambda frame: frame[behind][place], NONE, first_forced(aggregate.parts))
