"""Rows with names, which a cursor makes if its row factory is "Row"."""

from cursorhouse.errors import InterfaceError


class Row:
    """The values of one result row beside the names of their columns."""

    def __init__(self, names, cells):
        self._names = tuple(names)
        self._cells = tuple(cells)

    def __len__(self):
        return len(self._cells)

    def __eq__(self, other):
        return isinstance(other, Row) and self._names == other._names and self._cells == other._cells

    def keys(self):
        """Return a new list of the names."""
        return list(self._names)

    def item(self, key):
        """Return the value at an index, or of the first column with a name."""
        if isinstance(key, str):
            return self._named(key)
        if isinstance(key, bool) or not isinstance(key, int):
            raise InterfaceError()
        if not -len(self._cells) <= key < len(self._cells):
            raise InterfaceError()
        return self._cells[key]

    def cells(self):
        """Return the tuple of the values."""
        return self._cells

    def _named(self, key):
        for at, name in enumerate(self._names):
            if name.lower() == key.lower():
                return self._cells[at]
        raise InterfaceError()
