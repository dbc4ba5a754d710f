"""The values of SQL: their order, numbers, texts, truth and affinities."""

GREATEST = 9223372036854775807
LEAST = -9223372036854775808
BLANKS = " \n"
DIGITS = "0123456789"
# A number of so many digits, without zeros in front, is beyond 64 bits.
TOO_MANY_DIGITS = 20
# The affinities; an expression that is no column has the last one, too.
INTEGER = "INTEGER"
TEXT = "TEXT"
NONE = "NONE"


def is_plain_int(value):
    """Tell whether a value is an int, but no bool."""
    return isinstance(value, int) and not isinstance(value, bool)


def in_range(number):
    """Tell whether a number has at most 64 bits."""
    return LEAST <= number <= GREATEST


def is_value(value):
    """Tell whether an object is NULL, an integer or a text."""
    if value is None or isinstance(value, str):
        return True
    return is_plain_int(value) and in_range(value)


def text_of(value):
    """Return a value that is not NULL as a text."""
    return str(value)


def natural_number(digits):
    """Return the number that digits make, 0 of none; if it is beyond 64 bits, some number beyond them.

    Python does not read several thousand digits, and the first ones tell enough.
    """
    bare = digits.lstrip("0")[:TOO_MANY_DIGITS]
    return 0 if bare == "" else int(bare)


def whole_number(text):
    """Return the integer that a text is, or None."""
    bare = text.strip(BLANKS)
    digits = bare[1:] if bare[:1] in ("+", "-") else bare
    if digits == "" or _digits_end(digits, 0) < len(digits):
        return None
    number = _signed_number(bare[:1], digits)
    return number if in_range(number) else None


def _signed_number(sign, digits):
    return -natural_number(digits) if sign == "-" else natural_number(digits)


def number_of(value):
    """Return the number of a value, None of NULL."""
    if isinstance(value, str):
        return _leading_number(value)
    return value


def _leading_number(text):
    bare = text.lstrip(BLANKS)
    start = 1 if bare[:1] in ("+", "-") else 0
    end = _digits_end(bare, start)
    return max(LEAST, min(GREATEST, _signed_number(bare[:1], bare[start:end])))


def _digits_end(text, at):
    while at < len(text) and text[at] in DIGITS:
        at += 1
    return at


def is_true(value):
    """Tell whether a value is true; NULL is unknown, so it is not."""
    number = number_of(value)
    return number is not None and number != 0


def is_false(value):
    """Tell whether a value is false; NULL is unknown, so it is not."""
    return number_of(value) == 0


def same(value):
    """Return the value itself, as the affinity NONE leaves it."""
    return value


def as_integer(value):
    """Apply INTEGER affinity to a value."""
    if not isinstance(value, str):
        return value
    number = whole_number(value)
    return value if number is None else number


def as_text(value):
    """Apply TEXT affinity to a value."""
    return text_of(value) if is_plain_int(value) else value


AFFINITIES = {"INTEGER": as_integer, "TEXT": as_text, "NONE": same}


def with_affinity(affinity, value):
    """Apply an affinity to a value."""
    action = AFFINITIES[affinity]
    return action(value)


def affinity_of_kind(declared):
    """Return the affinity of a column by its declared kind."""
    kind = declared.upper()
    if "INT" in kind:
        return INTEGER
    if "CHAR" in kind or "CLOB" in kind or "TEXT" in kind:
        return TEXT
    if kind == "" or "BLOB" in kind:
        return NONE
    return INTEGER


def quoted(value):
    """Return the literal that has a value."""
    if value is None:
        return "NULL"
    if isinstance(value, str):
        inside = value.replace("'", "''")
        return f"'{inside}'"
    return str(value)
