"""Reading selects."""

from cursorhouse.expressions import ExpressionReader
from cursorhouse.selects import ResultText, Select, SourceText


class SelectReader(ExpressionReader):
    """Reads a select and its parts."""

    def read_select(self):
        """Read a select and return it."""
        self.skip("select")
        is_distinct = self.took("distinct")
        select = Select(is_distinct, self._results())
        if self.took("from"):
            select.sources = self._source_texts()
        select.where = self.read_where()
        if self.took("group", "by"):
            select.groups = self.expression_list()
        if self.took("having"):
            select.having = self.expression()
        if self.took("order", "by"):
            select.terms = self._terms()
        if self.took("limit"):
            select.limit = self.expression()
            if self.took("offset"):
                select.offset = self.expression()
        return select

    def read_where(self):
        """Read `where` and its expression, if they are there."""
        return self.expression() if self.took("where") else None

    def _results(self):
        results = [self._result()]
        while self.took(","):
            results.append(self._result())
        return results

    def _result(self):
        if self.took("*"):
            return ResultText(None, None, "")
        if self.is_at_name() and self.word_ahead(1) == "." and self.word_ahead(2) == "*":
            name = self.take_name()
            self.skip(".", "*")
            return ResultText(None, name, "")
        mark = self.mark()
        node = self.expression()
        text = self.text_since(mark)
        return ResultText(node, self._second_name(), text)

    def _second_name(self):
        if self.took("as") or self.is_at_name():
            return self.take_name()
        return None

    def _source_texts(self):
        sources = [self._source(False)]
        while True:
            if self.took(","):
                source = self._source(False)
            elif self.took("join") or self.took("inner", "join"):
                source = self._source(False)
                source.condition = self.expression() if self.took("on") else None
            elif self.took("left", "join") or self.took("left", "outer", "join"):
                source = self._source(True)
                self.skip("on")
                source.condition = self.expression()
            else:
                return sources
            sources.append(source)

    def _source(self, is_left):
        table_name = self.take_name()
        second = self._second_name()
        return SourceText(table_name, table_name if second is None else second, is_left)

    def _terms(self):
        terms = [self._term()]
        while self.took(","):
            terms.append(self._term())
        return terms

    def _term(self):
        node = self.expression()
        if self.took("desc"):
            return node, True
        self.took("asc")
        return node, False
