"""Prepared expressions, and how two of them are compared."""

from cursorhouse.collations import order_of
from cursorhouse.values import INTEGER, NONE, TEXT, as_integer, as_text, same


class Formula:
    """A prepared expression.

    `compute` is a function of a frame: a tuple with the row of each source (its rowid first) and, behind them, the
    values of the aggregates. `forced` is the collation of a `collate` in the expression, `natural` that of the column
    that it is; either may be None.
    """

    def __init__(self, compute, affinity=NONE, forced=None, natural=None):
        self.compute = compute
        self.affinity = affinity
        self.forced = forced
        self.natural = natural

    def own_collation(self, otherwise=None):
        """Return the collation of the expression, if it has one."""
        if self.forced is not None:
            return self.forced
        return otherwise if self.natural is None else self.natural


def first_forced(formulas):
    """Return the first collation of a `collate` in some expressions, or None."""
    for formula in formulas:
        if formula.forced is not None:
            return formula.forced
    return None


def first_collation(formulas, otherwise):
    """Return the collation of the first expression that has one."""
    for formula in formulas:
        found = formula.own_collation()
        if found is not None:
            return found
    return otherwise


def comparison(left, right, binary):
    """Return the function that compares values of two expressions with their affinities and collation."""
    collation = first_forced([left, right])
    if collation is None:
        collation = first_collation([left, right], binary)
    return comparison_by(left, right, collation)


def comparison_by(left, right, collation):
    """Return the function that compares values of two expressions with their affinities and this collation."""
    change_left = _change_beside(right.affinity, left.affinity)
    change_right = _change_beside(left.affinity, right.affinity)

    def compare(one, other):
        return order_of(change_left(one), change_right(other), collation)

    return compare


def _change_beside(affinity, own_affinity):
    if affinity == INTEGER and own_affinity != INTEGER:
        return as_integer
    if affinity == TEXT and own_affinity == NONE:
        return as_text
    return same
