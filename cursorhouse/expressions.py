"""Reading expressions."""

from cursorhouse.calls import Call
from cursorhouse.errors import require
from cursorhouse.nodes import Brackets, Case, Collated, ColumnName, Literal, Placeholder, Signed
from cursorhouse.operators import Arithmetic, Chain, Comparison, Concatenation, Logic, Negation
from cursorhouse.reading import Reader
from cursorhouse.values import GREATEST

# The groups of operators, from the loosest to the tightest.
OR_GROUP = 1
AND_GROUP = 2
NOT_GROUP = 3
EQUAL_GROUP = 4
LESS_GROUP = 5
PRODUCT_GROUP = 7
JOIN_GROUP = 8
GROUPS = {
    "or": 1, "and": 2, "=": 4, "==": 4, "<>": 4, "!=": 4, "is": 4, "in": 4, "between": 4, "isnull": 4, "notnull": 4,
    "not": 4, "<": 5, "<=": 5, ">": 5, ">=": 5, "+": 6, "-": 6, "*": 7, "/": 7, "||": 8,
}


class ExpressionReader(Reader):
    """Reads expressions. A floor is the loosest group whose operators may stand outside of brackets."""

    def expression(self, floor=OR_GROUP):
        """Read an expression and return its node."""
        ceiling = JOIN_GROUP
        if floor <= NOT_GROUP and self.is_at("not"):
            left = self._negation()
            ceiling = NOT_GROUP
        else:
            left = self._operand()
        # Behind an operator only those of its own or a looser group may follow.
        while floor <= (group := GROUPS.get(self.word_ahead(0), 0)) <= ceiling:
            ceiling = group
            word = self._operator()
            if word in ("isnull", "notnull"):
                operands = []
            elif word in ("in", "not in"):
                operands = self._bracketed_list()
            elif word in ("between", "not between"):
                operands = self._bounds()
            else:
                operands = [self.expression(group + 1)]
            left = _extended(left, group, word, operands)
        return left

    def expression_list(self):
        """Read expressions with commas between."""
        nodes = [self.expression()]
        while self.took(","):
            nodes.append(self.expression())
        return nodes

    def bracketed_expression(self):
        """Read an expression in brackets and return its node, without the brackets."""
        self.skip("(")
        node = self.expression()
        self.skip(")")
        return node

    def _negation(self):
        times = 0
        while self.took("not"):
            times += 1
        return Negation(times, self.expression(EQUAL_GROUP))

    def _operator(self):
        """Read an operator behind an operand and return its words."""
        word = self.taken().word
        if word == "is" and self.took("not"):
            return "is not"
        if word != "not":
            return word
        if self.took("null"):
            return "notnull"
        require(self.is_at("in", "between"))
        return "not " + self.taken().word

    def _bounds(self):
        low = self.expression(LESS_GROUP)
        self.skip("and")
        return [low, self.expression(LESS_GROUP)]

    def _bracketed_list(self):
        self.skip("(")
        nodes = [] if self.is_at(")") else self.expression_list()
        self.skip(")")
        return nodes

    def _operand(self):
        signs = []
        while self.is_at("+", "-"):
            signs.append(self.taken().word)
        node = self._primary(signs != [] and signs[-1] == "-")
        if signs != []:
            node = Signed(signs, node)
        names = []
        while self.took("collate"):
            names.append(self.take_name())
        return node if names == [] else Collated(node, names)

    def _primary(self, is_behind_minus):
        kind = self.kind_ahead()
        if kind == "integer":
            return Literal(self.integer(is_behind_minus))
        if kind == "text":
            return Literal(self.taken().value)
        if kind == "placeholder":
            return Placeholder(self.taken().value)
        if self.took("null"):
            return Literal(None)
        if self.is_at("("):
            return Brackets(self.bracketed_expression())
        if self.took("case"):
            return self._case()
        return self._named()

    def integer(self, is_behind_minus):
        """Read an integer; only behind a minus it may be 1 more than the greatest one."""
        require(self.kind_ahead() == "integer")
        number = self.taken().value
        require(number <= GREATEST or is_behind_minus)
        return number

    def _case(self):
        base = None if self.is_at("when") else self.expression()
        pairs = []
        while self.took("when"):
            when = self.expression()
            self.skip("then")
            pairs.append((when, self.expression()))
        require(pairs != [])
        otherwise = self.expression() if self.took("else") else None
        self.skip("end")
        return Case(base, pairs, otherwise)

    def _named(self):
        if self.word_ahead(1) == "(":
            return self._call()
        name = self.take_name()
        if self.took("."):
            return ColumnName(name, self.take_name())
        return ColumnName(None, name)

    def _call(self):
        mark = self.mark()
        name = "replace" if self.took("replace") else self.take_name()
        is_count = name.lower() == "count"
        is_distinct = False
        if is_count and self.took("(", "*", ")"):
            arguments = []
        elif is_count and self.took("(", "distinct"):
            arguments = [self.expression()]
            is_distinct = True
            self.skip(")")
        else:
            arguments = self._bracketed_list()
        return Call(name, arguments, is_distinct, _call_key(self.tokens_since(mark)))


def _extended(left, group, word, operands):
    """Return the node of an operand and what is behind it; a chain that is open for this group is continued."""
    if not isinstance(left, Chain) or left.group != group:
        if group <= AND_GROUP:
            left = Logic(group, left)
        elif group <= LESS_GROUP:
            left = Comparison(group, left)
        elif group <= PRODUCT_GROUP:
            left = Arithmetic(group, left)
        else:
            left = Concatenation(group, left)
    left.links.append((word, operands))
    return left


def _call_key(tokens):
    """Return a text that is the same for calls that mean the same."""
    parts = []
    for token in tokens:
        if token.kind == "placeholder":
            parts.append(f"?{token.value}")
        else:
            parts.append(token.text if token.word == "" else token.word)
    return " ".join(parts)
