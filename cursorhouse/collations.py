"""Collations, and the order of values by them."""


def _binary_form(text):
    return text


def _nocase_form(text):
    return text.lower()


def _rtrim_form(text):
    return text.rstrip(" ")


FOLDS = {"binary": _binary_form, "nocase": _nocase_form, "rtrim": _rtrim_form}


class Collation:
    """An order of texts: by a changed form of them, or by a function from outside."""

    def __init__(self, fold=None, function=None):
        self.fold = fold
        self.function = function

    def compare(self, one, other):
        """Return a number below 0, 0 or above 0 for two texts."""
        if self.function is not None:
            return self.function(one, other)
        left = self.fold(one)
        right = self.fold(other)
        return (left > right) - (left < right)

    def sort_parts(self, texts):
        """Return a dict with a sortable part for each text; the parts of equal texts are equal."""
        if self.function is None:
            return {text: self.fold(text) for text in texts}
        ranks = {}
        for rank, group in enumerate(self._ordered_groups(texts)):
            for text in group:
                ranks[text] = rank
        return ranks

    def _ordered_groups(self, texts):
        groups = []
        for text in {text: True for text in texts}:
            self._put_in_order(groups, text)
        return groups

    def _put_in_order(self, groups, text):
        low = 0
        high = len(groups)
        while low < high:
            middle = (low + high) // 2
            order = self.compare(text, groups[middle][0])
            if order == 0:
                groups[middle].append(text)
                return
            if order < 0:
                high = middle
            else:
                low = middle + 1
        groups.insert(low, [text])


def built_in_collation(name):
    """Return the collation of this name in small letters that is there from the start, or None."""
    fold = FOLDS.get(name)
    return None if fold is None else Collation(fold)


def order_of(one, other, collation):
    """Return -1, 0 or 1 by the order of two values."""
    if isinstance(one, str) and isinstance(other, str):
        order = collation.compare(one, other)
        return (order > 0) - (order < 0)
    left = _storage_rank(one)
    right = _storage_rank(other)
    if left != right or one is None:
        return (left > right) - (left < right)
    return (one > other) - (one < other)


def _storage_rank(value):
    if value is None:
        return 0
    return 2 if isinstance(value, str) else 1


def sort_keys(values, collation):
    """Return a list with a key for each value; keys are sorted and equal as the values are."""
    parts = collation.sort_parts([value for value in values if isinstance(value, str)])
    return [_sort_key(value, parts) for value in values]


def _sort_key(value, parts):
    if value is None:
        return (0, 0)
    if isinstance(value, str):
        return (2, parts[value])
    return (1, value)
