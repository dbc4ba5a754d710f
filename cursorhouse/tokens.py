"""The tokens of SQL texts."""

from cursorhouse.values import BLANKS, DIGITS, GREATEST, natural_number

LETTERS = "abcdefghijklmnopqrstuvwxyzABCDEFGHIJKLMNOPQRSTUVWXYZ_"
WORD_SIGNS = "abcdefghijklmnopqrstuvwxyzABCDEFGHIJKLMNOPQRSTUVWXYZ_0123456789"
DOUBLE_SIGNS = ("||", "<=", ">=", "<>", "!=", "==")
SINGLE_SIGNS = "(),.;=<>+-*/"
KEYWORDS = (
    "add", "all", "alter", "and", "as", "asc", "autoincrement", "begin", "between", "by", "case", "check",
    "collate", "commit", "constraint", "create", "cross", "default", "deferred", "delete", "desc", "distinct",
    "drop", "else", "end", "escape", "except", "exclusive", "exists", "foreign", "from", "group", "having", "if",
    "immediate", "in", "index", "inner", "insert", "intersect", "into", "is", "isnull", "join", "left", "like",
    "limit", "natural", "not", "nothing", "notnull", "null", "offset", "on", "or", "order", "outer", "primary",
    "references", "release", "replace", "returning", "rollback", "savepoint", "select", "set", "table", "then",
    "to", "transaction", "union", "unique", "update", "using", "values", "when", "where", "with",
)


class Token:
    """A part of an SQL text.

    Its kind is "name", "keyword", "quoted", "integer", "text", "placeholder", "sign" or "bad". The value is what a
    name, a text or an integer stands for; a placeholder's is its number once it has been counted.
    """

    def __init__(self, kind, sql, start, end, value=None):
        self.kind = kind
        self.start = start
        self.end = end
        self.text = sql[start:end]
        self.value = value
        # Keywords and names are compared in small letters, texts and quoted names never as words.
        self.word = self.text.lower() if kind in ("name", "keyword", "sign") else ""


def scan(sql):
    """Return the list of the tokens of an SQL text."""
    tokens = []
    at = _next_start(sql, 0)
    while at < len(sql):
        token = _token_at(sql, at)
        tokens.append(token)
        at = _next_start(sql, token.end)
    return tokens


def _next_start(sql, at):
    while at < len(sql):
        if sql[at] in BLANKS:
            at += 1
        elif sql.startswith("--", at):
            at = _end_behind(sql, "\n", at)
        elif sql.startswith("/*", at):
            at = _end_behind(sql, "*/", at + 2)
        else:
            break
    return at


def _end_behind(sql, sign, at):
    found = sql.find(sign, at)
    return len(sql) if found < 0 else found + len(sign)


def _run_end(sql, at, letters):
    while at < len(sql) and sql[at] in letters:
        at += 1
    return at


def _token_at(sql, at):
    first = sql[at]
    if first in LETTERS:
        return _word_token(sql, at)
    if first in DIGITS:
        return _integer_token(sql, at)
    if first == "'":
        return _text_token(sql, at)
    if first == '"':
        return _quoted_token(sql, at)
    if first in "?:@$":
        return _placeholder_token(sql, at)
    return _sign_token(sql, at)


def _word_token(sql, at):
    end = _run_end(sql, at, WORD_SIGNS)
    text = sql[at:end]
    kind = "keyword" if text.lower() in KEYWORDS else "name"
    return Token(kind, sql, at, end, text)


def _integer_token(sql, at):
    end = _run_end(sql, at, DIGITS)
    number = natural_number(sql[at:end])
    # Behind a minus one more than the greatest integer is allowed; the parser knows where that is.
    if number > GREATEST + 1 or (end < len(sql) and sql[end] in LETTERS):
        # One bad token for all digits, as nothing tells them apart and there may be thousands.
        return Token("bad", sql, at, end)
    return Token("integer", sql, at, end, number)


def _text_token(sql, at):
    end = sql.find("'", at + 1)
    while end >= 0 and sql.startswith("'", end + 1):
        end = sql.find("'", end + 2)
    if end < 0:
        return Token("bad", sql, at, len(sql))
    return Token("text", sql, at, end + 1, sql[at + 1:end].replace("''", "'"))


def _quoted_token(sql, at):
    end = sql.find('"', at + 1)
    if end < 0:
        return Token("bad", sql, at, len(sql))
    if end == at + 1:
        return Token("bad", sql, at, end + 1)
    return Token("quoted", sql, at, end + 1, sql[at + 1:end])


def _placeholder_token(sql, at):
    if sql[at] == "?":
        end = at + 1
        if sql[end:end + 1] != "0":
            end = min(_run_end(sql, end, DIGITS), at + 3)
        return Token("placeholder", sql, at, end)
    end = _run_end(sql, at + 1, WORD_SIGNS)
    kind = "bad" if end == at + 1 else "placeholder"
    return Token(kind, sql, at, end)


def _sign_token(sql, at):
    if sql[at:at + 2] in DOUBLE_SIGNS:
        return Token("sign", sql, at, at + 2)
    kind = "sign" if sql[at] in SINGLE_SIGNS else "bad"
    return Token(kind, sql, at, at + 1)
