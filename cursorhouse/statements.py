"""Statements as parts of a text: where they end, their placeholders, and their preparation."""

from cursorhouse.scopes import Preparation
from cursorhouse.statement_reading import read_statement


class Statement:
    """A prepared statement.

    `placeholders` are the pairs of a number and a text, `value_count` is the greatest number.
    """

    def __init__(self, plan, preparation, placeholders, text):
        self.plan = plan
        self.preparation = preparation
        self.placeholders = placeholders
        self.value_count = max([number for number, _ in placeholders], default=0)
        self.text = text

    def bind(self, values):
        """Set the values of the parameters for the next execution."""
        preparation = self.preparation
        preparation.bound = values


def token_groups(tokens):
    """Return the lists of the tokens of the statements, which semicolons separate; none of them is empty."""
    groups = [[]]
    for token in tokens:
        if token.word == ";":
            groups.append([])
        else:
            groups[-1].append(token)
    return [group for group in groups if group != []]


def first_group(tokens):
    """Return the tokens of the first statement, and whether any token stands behind its semicolon."""
    start = 0
    while start < len(tokens) and tokens[start].word == ";":
        start += 1
    end = start
    while end < len(tokens) and tokens[end].word != ";":
        end += 1
    return tokens[start:end], end + 1 < len(tokens)


def prepared_statement(session, sql, tokens):
    """Return the statement that some tokens, at least one, of an SQL text make."""
    placeholders = _numbered_placeholders(tokens)
    preparation = Preparation(session.registry, session.seen_tables(), session.counts)
    plan = read_statement(sql, tokens).prepared(preparation)
    return Statement(plan, preparation, placeholders, sql[tokens[0].start:tokens[-1].end])


def _numbered_placeholders(tokens):
    placeholders = []
    numbers = {}
    greatest = 0
    for token in tokens:
        if token.kind != "placeholder":
            continue
        if token.text == "?":
            number = greatest + 1
        elif token.text.startswith("?"):
            number = int(token.text[1:])
        else:
            number = numbers.setdefault(token.text, greatest + 1)
        greatest = max(greatest, number)
        token.value = number
        placeholders.append((number, token.text))
    return placeholders
