"""The operands of SQL expressions: literals, placeholders, columns, brackets, signs, collations and cases."""

from cursorhouse.errors import SQL_ERROR, OperationalError
from cursorhouse.formulas import Formula, comparison, first_forced
from cursorhouse.values import NONE, in_range, is_true, number_of


class Node:
    """An expression as it is written. `prepared(scope)` makes a Formula of it."""

    def whole(self):
        """Return the integer if this is an integer alone, else None."""
        return None

    def lone_name(self):
        """Return the name if this is a name alone, perhaps in brackets or with `collate`, else None."""
        return None

    def bare_column(self):
        """Return the ColumnName if this is one, perhaps in brackets, else None."""
        return None

    def collate_names(self):
        """Return the names behind `collate` around an integer or a name alone, the outermost first."""
        return []


class Literal(Node):
    """An integer, a text or `null`."""

    def __init__(self, value):
        self.value = value

    def whole(self):
        """Return the integer if it is one."""
        return self.value if isinstance(self.value, int) else None

    def prepared(self, scope):
        """Return the formula of the literal."""
        value = self.value
        return Formula(lambda frame: value)


class Placeholder(Node):
    """A place for the parameter of a number from 1 on."""

    def __init__(self, number):
        self.number = number

    def prepared(self, scope):
        """Return the formula that reads the bound value."""
        preparation = scope.preparation
        at = self.number - 1
        return Formula(lambda frame: preparation.bound[at])


class ColumnName(Node):
    """A name, perhaps behind the name of a source."""

    def __init__(self, qualifier, name):
        self.qualifier = qualifier
        self.name = name

    def lone_name(self):
        """Return the name if no source is named."""
        return self.name if self.qualifier is None else None

    def bare_column(self):
        """Return this."""
        return self

    def prepared(self, scope):
        """Return the formula of the column, or of the result that has this alias."""
        place = scope.place_of(self.qualifier, self.name)
        if place is not None:
            return place_formula(scope, place)
        node = None if self.qualifier is not None else scope.aliased_node(self.name)
        if node is None:
            raise OperationalError(SQL_ERROR)
        return node.prepared(scope.without_aliases())


def place_formula(scope, place):
    """Return the formula of the column at a place: the index of a source and a position in its row."""
    source, position = place
    column = scope.sources[source].form.column_at(position)
    natural = scope.collation_named(column.collation_name)
    return Formula(lambda frame: frame[source][position], column.affinity, None, natural)


class Brackets(Node):
    """An expression in brackets."""

    def __init__(self, inner):
        self.inner = inner

    def whole(self):
        """Return the integer inside, if it is alone."""
        return self.inner.whole()

    def lone_name(self):
        """Return the name inside, if it is alone."""
        return self.inner.lone_name()

    def bare_column(self):
        """Return the column inside, if it is one."""
        return self.inner.bare_column()

    def collate_names(self):
        """Return the names inside."""
        return self.inner.collate_names()

    def prepared(self, scope):
        """Return the formula of what is inside."""
        return self.inner.prepared(scope)


class Signed(Node):
    """An expression behind signs, each `+` or `-`, the outermost first."""

    def __init__(self, signs, inner):
        self.signs = signs
        self.inner = inner

    def whole(self):
        """Return the integer with its signs, if it is alone."""
        number = self.inner.whole()
        if number is None:
            return None
        return -number if self.signs.count("-") & 1 else number

    def collate_names(self):
        """Return the names behind the signs."""
        return self.inner.collate_names()

    def prepared(self, scope):
        """Return the formula with the signs."""
        inner = self.inner.prepared(scope)
        times = self.signs.count("-")
        if times == 0:
            return Formula(inner.compute, NONE, inner.forced, inner.natural)

        def compute(frame):
            return _negated(inner.compute(frame), times)

        return Formula(compute, NONE, inner.forced)


def _negated(value, times):
    number = number_of(value)
    if number is None:
        return None
    for _ in range(times):
        number = -number
        if not in_range(number):
            raise OperationalError(SQL_ERROR)
    return number


class Collated(Node):
    """An expression with `collate` behind it, once or several times, the innermost name first."""

    def __init__(self, inner, names):
        self.inner = inner
        self.names = names

    def whole(self):
        """Return the integer, if it is alone."""
        return self.inner.whole()

    def lone_name(self):
        """Return the name, if it is alone."""
        return self.inner.lone_name()

    def collate_names(self):
        """Return the names, the outermost first."""
        return list(reversed(self.names)) + self.inner.collate_names()

    def prepared(self, scope):
        """Return the formula with the outermost collation."""
        inner = self.inner.prepared(scope)
        forced = None
        for name in self.names:
            forced = scope.collation_named(name)
        return Formula(inner.compute, inner.affinity, forced, inner.natural)


class Case(Node):
    """`case` with pairs of `when` and `then`, perhaps with a base and an `else`."""

    def __init__(self, base, pairs, otherwise):
        self.base = base
        self.pairs = pairs
        self.otherwise = otherwise

    def prepared(self, scope):
        """Return the formula of the case."""
        base = None if self.base is None else self.base.prepared(scope)
        pairs = [(when.prepared(scope), then.prepared(scope)) for when, then in self.pairs]
        parts = [] if base is None else [base]
        for when, then in pairs:
            parts += [when, then]
        otherwise = Literal(None) if self.otherwise is None else self.otherwise
        last = otherwise.prepared(scope)
        forced = first_forced([*parts, last])
        if base is None:
            return Formula(_searched_case(pairs, last), NONE, forced)
        return Formula(_matched_case(base, pairs, last, scope), NONE, forced)


def _searched_case(pairs, last):
    def compute(frame):
        for when, then in pairs:
            if is_true(when.compute(frame)):
                return then.compute(frame)
        return last.compute(frame)

    return compute


def _matched_case(base, pairs, last, scope):
    binary = scope.collation_named("BINARY")
    tests = [(when, comparison(base, when, binary), then) for when, then in pairs]

    def compute(frame):
        value = base.compute(frame)
        for when, compare, then in tests:
            other = when.compute(frame)
            if value is not None and other is not None and compare(value, other) == 0:
                return then.compute(frame)
        return last.compute(frame)

    return compute
