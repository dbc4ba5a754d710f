import unittest

from cursorhouse.texts import complete_statement
from support import DatabaseTest


class CompleteStatementTest(DatabaseTest):
    """Point 64."""

    def complete(self, wanted, *texts):
        for sql in texts:
            with self.subTest(sql=sql):
                self.assertIs(complete_statement(sql), wanted)

    def test_a_semicolon_as_the_last_token(self):
        self.complete(True, ";", "select 1;", ";;", " ; ", "select 1; select 2;", "x;", "no statement at all;", "select 1 ;\n\n")
        self.complete(False, "", " ", "\n", "select 1", "; select 1", "select", "1", "select ;1", "; ?", "; x", ";.")

    def test_comments_behind_it(self):
        self.complete(True, "select 1; -- end", "select 1; --", ";--;", ";/* x */", "; /* open", ";/*", "; -- a\n/* b */ -- c\n", "/*;*/;", "--;\n;")
        self.complete(False, "--;", "-- x;", "/*;*/", "/* x;", "select 1 -- ;", "select 1 /* ; */", "/*/;", "/*/;/*/", "--;\n", "1 /*/ ; ")
        self.complete(True, "/*/;*/;", "/**/;", "-;", "/;")

    def test_a_semicolon_in_a_text_or_a_quoted_name(self):
        self.complete(False, "';'", "select ';'", 'select ";"', "'it''s;'", "select 'a;\n'", '";"', "';--'", "'/*';x")
        self.complete(True, "select ';';", 'select ";";', "'--';", '"/*";', "'it''s';", "'/*;*/';", "'';", "'\n';", "'\"';", "\"'\";")

    def test_bad_tokens(self):
        self.complete(False, "'", "';", "'a;", "select 1; 'a;", '"', '";', '"a;', 'select 1; "a;', "'it''s;", "'''", "''';", ";#", "; [", "; !", ";|",
                      "; 1a", ";1a", '; ""', "; :", ";@", "; $", "; 99999999999999999999", "; 9223372036854775808", ";" + "1" * 6000)
        self.complete(True, "#;", "[;", "!;", "1a;", '"";', ":;", "99999999999999999999;", "1" * 5000 + ";", "' ; ' ;", "|;", "''' ';")

    def test_tokens_end_as_late_as_possible(self):
        self.complete(False, ";?1", ";:a", ";@1", ";$_", ";x1", ";007", "/* ; ")
        self.complete(True, "?1;", ":a;", "@1;", "$_;", "x1;", "007;", "?;")

    def test_its_parameter(self):
        self.assertIs(complete_statement(sql="select 1;"), True)
        self.assertIs(complete_statement(sql="select 1"), False)
        self.assertRaises(TypeError, complete_statement)

    def test_it_agrees_with_what_is_executed(self):
        """A text that is complete is executed; what another `;` ends behind it is refused."""
        for sql in ("select 1;", "select ';' ; -- x", "/* ; */ select 1 /* ; */;"):
            self.assertIs(complete_statement(sql), True)
            self.assertEqual(len(self.rows(sql)), 1)


if __name__ == "__main__":
    unittest.main()
