"""Looking at SQL texts without executing them."""

from cursorhouse.tokens import scan


def complete_statement(sql):
    """Tell whether the last token of a text is a semicolon."""
    tokens = scan(sql)
    return tokens != [] and tokens[-1].word == ";"
