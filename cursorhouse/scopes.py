"""Where a name in an expression is looked up."""

from cursorhouse.errors import SQL_ERROR, OperationalError


class Preparation:
    """What all expressions of a statement are prepared with.

    `tables` is the dict of the tables as the connection sees them, by their names in small letters; `counts` has the
    numbers that the connection counts. `bound` is set before the statement is executed: the values of the parameters.
    """

    def __init__(self, registry, tables, counts):
        self._registry = registry
        self.tables = tables
        self.counts = counts
        self.bound = ()

    def table_named(self, name):
        """Return the table of this name."""
        found = self.tables.get(name.lower())
        if found is None:
            raise OperationalError(SQL_ERROR)
        return found

    def collation_named(self, name):
        """Return the collation of this name."""
        found = self._registry.collation_named(name)
        if found is None:
            raise OperationalError(SQL_ERROR)
        return found

    def outside(self, name, count):
        """Return the function or aggregate from outside for a call, or None."""
        return self._registry.outside(name, count)


class Source:
    """A table that a statement reads, under its second name in small letters."""

    def __init__(self, name, form):
        self.name = name.lower()
        self.form = form


class Scope:
    """The sources and aliases that an expression may name, and the list of aggregates (None: none are allowed).

    The aliases are pairs of a name in small letters and an expression.
    """

    def __init__(self, preparation, sources, aliases=(), aggregates=None):
        self.preparation = preparation
        self.sources = sources
        self.aliases = aliases
        self.aggregates = aggregates

    def collation_named(self, name):
        """Return the collation of this name."""
        return self.preparation.collation_named(name)

    def place_of(self, qualifier, name):
        """Return the index of the source and the position in its row that a name means, or None."""
        asked = self._asked_sources(qualifier)
        places = [(at, self.sources[at].form.position(name)) for at in asked]
        found = [place for place in places if place[1] is not None]
        if found == [] and name.lower() == "rowid":
            found = [(at, 0) for at in asked]
        if len(found) > 1:
            raise OperationalError(SQL_ERROR)
        return found[0] if found != [] else None

    def aliased_node(self, name):
        """Return the expression of the first result with this alias, or None."""
        for alias, node in self.aliases:
            if alias == name.lower():
                return node
        return None

    def without_aliases(self):
        """Return the scope in which an expression stands for its alias."""
        return Scope(self.preparation, self.sources, (), self.aggregates)

    def inside_aggregate(self):
        """Return the scope of the arguments of an aggregate."""
        return Scope(self.preparation, self.sources, self.aliases)

    def _asked_sources(self, qualifier):
        places = []
        for at, source in enumerate(self.sources):
            if qualifier is None or source.name == qualifier.lower():
                places.append(at)
        return places


def value_scope(preparation):
    """Return the scope of an expression that may name neither columns nor aliases."""
    return Scope(preparation, [])


def table_scope(preparation, form):
    """Return the scope of an expression over the rows of one table."""
    return Scope(preparation, [Source(form.name, form)])


def prepared_collations(form, preparation):
    """Return the collations of the columns of a table."""
    return [preparation.collation_named(column.collation_name) for column in form.columns]


def prepared_checks(form, preparation):
    """Return the formulas of the checks of a table."""
    scope = table_scope(preparation, form)
    return [check.prepared(scope) for check in form.checks]
