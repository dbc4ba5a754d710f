"""The operators of SQL expressions.

Operators of one group are kept in one flat node, so that long texts lead to no deep recursion.
"""

from cursorhouse.errors import SQL_ERROR, OperationalError
from cursorhouse.formulas import Formula, comparison, comparison_by, first_forced
from cursorhouse.nodes import Node
from cursorhouse.values import NONE, in_range, is_true, number_of, text_of

# The orders (left below right, equal, left above right) for which a comparison is true.
ACCEPTED = {
    "=": (0,), "==": (0,), "is": (0,), "<>": (-1, 1), "!=": (-1, 1), "is not": (-1, 1),
    "<": (-1,), "<=": (-1, 0), ">": (1,), ">=": (0, 1),
}


class Chain(Node):
    """A first operand and links with the operators of one group: pairs of an operator and a list of operands."""

    def __init__(self, group, first):
        self.group = group
        self.first = first
        self.links = []


class Logic(Chain):
    """Operands joined by `and`, or by `or`."""

    def prepared(self, scope):
        """Return the formula that stops at the first part that decides."""
        parts = [self.first.prepared(scope)]
        decisive = False
        for word, operands in self.links:
            decisive = word == "or"
            parts.append(operands[0].prepared(scope))

        def compute(frame):
            unknown = False
            for part in parts:
                number = number_of(part.compute(frame))
                if number is None:
                    unknown = True
                elif (number != 0) == decisive:
                    return 1 if decisive else 0
            if unknown:
                return None
            return 0 if decisive else 1

        return Formula(compute, NONE, first_forced(parts))


class Negation(Node):
    """An expression behind one or several `not`."""

    def __init__(self, times, inner):
        self.times = times
        self.inner = inner

    def prepared(self, scope):
        """Return the formula of the negation."""
        inner = self.inner.prepared(scope)
        wanted = self.times & 1 == 0

        def compute(frame):
            value = inner.compute(frame)
            if value is None:
                return None
            return 1 if is_true(value) == wanted else 0

        return Formula(compute, NONE, inner.forced)


class Arithmetic(Chain):
    """Operands joined by `+` and `-`, or by `*` and `/`."""

    def prepared(self, scope):
        """Return the formula of the computation."""
        first = self.first.prepared(scope)
        links = [(sign, operands[0].prepared(scope)) for sign, operands in self.links]

        def compute(frame):
            total = first.compute(frame)
            for sign, part in links:
                total = _combined(sign, number_of(total), number_of(part.compute(frame)))
            return total

        return Formula(compute, NONE, first_forced([first] + [part for _, part in links]))


def _combined(sign, one, other):
    if one is None or other is None or (sign == "/" and other == 0):
        return None
    if sign == "+":
        result = one + other
    elif sign == "-":
        result = one - other
    elif sign == "*":
        result = one * other
    else:
        result = abs(one) // abs(other)
        if (one < 0) != (other < 0):
            result = -result
    if not in_range(result):
        raise OperationalError(SQL_ERROR)
    return result


class Concatenation(Chain):
    """Operands joined by `||`."""

    def prepared(self, scope):
        """Return the formula of the joined texts."""
        parts = [self.first.prepared(scope)]
        for _, operands in self.links:
            parts.append(operands[0].prepared(scope))

        def compute(frame):
            values = [part.compute(frame) for part in parts]
            if None in values:
                return None
            return "".join([text_of(value) for value in values])

        return Formula(compute, NONE, first_forced(parts))


class Comparison(Chain):
    """Operands that are compared, each link with the result of those before it."""

    def prepared(self, scope):
        """Return the formula of the comparisons, one after another."""
        first = self.first.prepared(scope)
        binary = scope.collation_named("BINARY")
        left = first
        steps = []
        for word, operands in self.links:
            parts = [operand.prepared(scope) for operand in operands]
            steps.append(_step(word, left, parts, binary))
            left = Formula(None, NONE, first_forced([left, *parts]))

        def compute(frame):
            value = first.compute(frame)
            for step in steps:
                value = step(value, frame)
            return value

        return Formula(compute, NONE, left.forced)


def _step(word, left, parts, binary):
    if word == "isnull":
        return lambda value, frame: 1 if value is None else 0
    if word == "notnull":
        return lambda value, frame: 0 if value is None else 1
    if word in ("in", "not in"):
        return _turned(_in_step(left, parts, binary), word == "not in")
    if word in ("between", "not between"):
        return _turned(_between_step(left, parts, binary), word == "not between")
    if word in ("is", "is not"):
        return _is_step(word, left, parts[0], binary)
    return _compare_step(word, left, parts[0], binary)


def _turned(step, is_turned):
    if not is_turned:
        return step

    def turned(value, frame):
        result = step(value, frame)
        return None if result is None else 1 - result

    return turned


def _compare_step(word, left, right, binary):
    compare = comparison(left, right, binary)
    accepted = ACCEPTED[word]

    def step(value, frame):
        other = right.compute(frame)
        if value is None or other is None:
            return None
        return 1 if compare(value, other) in accepted else 0

    return step


def _is_step(word, left, right, binary):
    compare = comparison(left, right, binary)
    accepted = ACCEPTED[word]
    return lambda value, frame: 1 if compare(value, right.compute(frame)) in accepted else 0


def _between_step(left, parts, binary):
    low = _compare_step(">=", left, parts[0], binary)
    high = _compare_step("<=", left, parts[1], binary)

    def step(value, frame):
        above = low(value, frame)
        if above == 0:
            return 0
        below = high(value, frame)
        if below == 0:
            return 0
        return None if above is None else below

    return step


def _in_step(left, parts, binary):
    collation = left.own_collation(binary)
    tests = [(part, comparison_by(left, Formula(None), collation)) for part in parts]

    def step(value, frame):
        unknown = value is None and tests != []
        for part, compare in tests:
            other = part.compute(frame)
            if other is None:
                unknown = True
            elif value is not None and compare(value, other) == 0:
                return 1
        return None if unknown else 0

    return step
