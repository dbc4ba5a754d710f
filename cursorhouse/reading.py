"""Reading the tokens of a statement one after another."""

from cursorhouse.errors import require


class Reader:
    """Takes tokens from the left; what is asked for and is not there is an error of the statement."""

    def __init__(self, sql, tokens):
        self._sql = sql
        self._tokens = tokens
        self._at = 0

    def is_at_end(self):
        """Tell whether no token is left."""
        return self._at == len(self._tokens)

    def is_at(self, *words):
        """Tell whether the next token is one of some keywords, unquoted names or signs, in small letters."""
        return self.word_ahead(0) in words

    def word_ahead(self, distance):
        """Return the word of a token that follows, "" if it has none or if there is none."""
        at = self._at + distance
        return self._tokens[at].word if at < len(self._tokens) else ""

    def kind_ahead(self):
        """Return the kind of the next token, "" if there is none."""
        return "" if self.is_at_end() else self._tokens[self._at].kind

    def taken(self):
        """Return the next token, which has been looked at, and go behind it."""
        token = self._tokens[self._at]
        self._at += 1
        return token

    def took(self, *words):
        """Go behind the next tokens if they are just these words; tell whether they are."""
        for distance, word in enumerate(words):
            if self.word_ahead(distance) != word:
                return False
        self._at += len(words)
        return True

    def skip(self, *words):
        """Go behind the next tokens, which have to be these words."""
        require(self.took(*words))

    def take_name(self):
        """Return the name, quoted or not, that has to be the next token, and go behind it."""
        require(self.is_at_name())
        return self.taken().value

    def is_at_name(self):
        """Tell whether the next token is a name, quoted or not."""
        return self.kind_ahead() in ("name", "quoted")

    def names_in_brackets(self):
        """Return the list of names, with commas between, in brackets."""
        self.skip("(")
        names = [self.take_name()]
        while self.took(","):
            names.append(self.take_name())
        self.skip(")")
        return names

    def mark(self):
        """Return the place of the next token, for `text_since` and `tokens_since`."""
        return self._at

    def tokens_since(self, mark):
        """Return the tokens from a marked place to the one before the next."""
        return self._tokens[mark:self._at]

    def text_since(self, mark):
        """Return the SQL text of these tokens, "" if there are none."""
        tokens = self.tokens_since(mark)
        return self._sql[tokens[0].start:tokens[-1].end] if tokens != [] else ""
