"""How frames are grouped, and result rows are made distinct and sorted."""

from cursorhouse.collations import sort_keys


class GroupTerm:
    """A term of `group by`: a function of a frame, and the collation of its values."""

    def __init__(self, compute, collation):
        self.compute = compute
        self.collation = collation


class OrderTerm:
    """A term of `order by`: the index of a result column, or else a function of a frame."""

    def __init__(self, index, compute, collation, is_descending):
        self.index = index
        self.compute = compute
        self.collation = collation
        self.is_descending = is_descending

    def sort_value(self, values, frame):
        """Return what a result row and its frame are sorted by."""
        return self.compute(frame) if self.index is None else values[self.index]


def grouped(frames, terms):
    """Return the lists of the frames with equal terms, in ascending order; without terms one list of all."""
    if terms == []:
        return [frames]
    columns = [sort_keys([term.compute(frame) for frame in frames], term.collation) for term in terms]
    members = {}
    for at, member in enumerate(frames):
        members.setdefault(tuple([keys[at] for keys in columns]), []).append(member)
    return [members[key] for key in sorted(list(members))]


def distinct_rows(rows, collations):
    """Return the first rows (pairs of values and a frame) of those with equal values."""
    columns = []
    for at, collation in enumerate(collations):
        columns.append(sort_keys([values[at] for values, _ in rows], collation))
    firsts = {}
    for at, row in enumerate(rows):
        firsts.setdefault(tuple([keys[at] for keys in columns]), row)
    return list(firsts.values())


def ordered(rows, terms):
    """Return the rows (pairs of values and a frame) in the order of the terms."""
    columns = []
    for term in terms:
        columns.append(sort_keys([term.sort_value(values, frame) for values, frame in rows], term.collation))
    places = list(range(len(rows)))
    # The last term is sorted by first, since each sorting leaves equal rows in their order.
    for at in reversed(range(len(terms))):
        places = _sorted_places(places, columns[at], terms[at].is_descending)
    return [rows[place] for place in places]


def _sorted_places(places, keys, is_descending):
    if is_descending:
        return sorted(places, key=lambda place: keys[place], reverse=True)
    return sorted(places, key=lambda place: keys[place])
