import unittest

from support import ERROR, DatabaseTest


class ValuesTest(DatabaseTest):
    """Points 7 to 9."""

    def test_the_order_of_values(self):
        self.run_all("create table t(a)")
        self.db.executemany("insert into t values(?)", [["b"], [10], [None], ["B"], [-3], [""], ["a"], [2]])
        found = [row[0] for row in self.rows("select a from t order by a")]
        self.assertEqual(found, [None, -3, 2, 10, "", "B", "a", "b"])

    def test_the_collations(self):
        self.same_values({
            "'a' = 'A'": 0, "'a' = 'A' collate nocase": 1, "'a' < 'B' collate NOCASE": 1, "'a' < 'B'": 0,
            "'a' = 'a  '": 0, "'a' = 'a  ' collate RTrim": 1, "'a' = ' a' collate rtrim": 0,
            "'[' < 'a'": 1, "'_' < 'A' collate nocase": 1, "'a' = 'A' collate rtrim": 0, "'a' = 'a ' collate nocase": 0,
            "'a\n' = 'a' collate rtrim": 0, "'a~' = 'a' collate rtrim": 0, "'a ~ ' = 'a ~' collate rtrim": 1,
        })

    def test_names_are_the_same_in_letters_of_either_case(self):
        self.run_all("create table Tab(Col collate NoCase)", "insert into TAB(cOL) values('x')", "savepoint Sp",
                     "release sP")
        self.assertEqual(self.rows("select T.COL, ABS(-1) from tab as t where t.col = 'X'"), [("x", 1)])

    def test_the_affinity_of_values(self):
        self.run_all("create table t(i integer, t text, n)")
        for given, integer, text in (("12", 12, "12"), (" +7\n", 7, " +7\n"), ("-0", 0, "-0"), ("1x", "1x", "1x"),
                                     ("", "", ""), ("+", "+", "+"), ("1 2", "1 2", "1 2"), ("- 1", "- 1", "- 1"),
                                     (5, 5, "5"), (-5, -5, "-5"), (None, None, None), ("007", 7, "007"),
                                     ("9223372036854775807", 2 ** 63 - 1, "9223372036854775807"),
                                     ("9223372036854775808", "9223372036854775808", "9223372036854775808"),
                                     ("-9223372036854775808", -2 ** 63, "-9223372036854775808")):
            self.run_all("delete from t")
            self.db.execute("insert into t values(?, ?, ?)", (given, given, given))
            self.assertEqual(self.rows("select * from t"), [(integer, text, given)])

    def test_the_number_of_a_value(self):
        self.same_values({
            "'12' + 0": 12, "' \n-12x' + 0": -12, "'' + 0": 0, "'x1' + 0": 0, "'+' + 0": 0, "'- 5' + 0": 0,
            "'99999999999999999999' + 0": 2 ** 63 - 1, "'-99999999999999999999x' + 0": -2 ** 63, "'1.9' + 0": 1,
            "'--1' + 0": 0, "'+5 6' + 0": 5,
        })
        self.assertIsNone(self.value("null + 0"))

    def test_the_number_of_a_text_of_thousands_of_digits(self):
        """Texts beyond 400 characters, which are not specified, still raise no error of Python's own."""
        many = "replace('" + "1" * 100 + "', '1', '" + "1" * 100 + "')"
        self.same_values({f"{many} + 0": 2 ** 63 - 1, f"('-' || {many}) + 0": -2 ** 63, f"{many} || 'x' + 0": 2 ** 63 - 1,
                          f"replace({many}, '1', '0') || '12' + 0": 12})
        self.run_all("create table t(a integer)", f"insert into t values({many})")
        self.assertEqual(self.rows("select typeof(a), length(a) from t"), [("text", 10000)])

    def test_truth(self):
        for value, wanted in (("0", 0), ("1", 1), ("-1", 1), ("'0'", 0), ("'0x1'", 0), ("' 2a'", 1), ("''", 0)):
            self.assertEqual(self.value(f"case when {value} then 1 else 0 end"), wanted)
        self.assertEqual(self.value("case when null then 1 else 0 end"), 0)

    def test_affinity_by_the_declared_kind(self):
        for kind, wanted in (("integer", 5), ("POINT", 5), ("charint", 5), ("char", "5"), ("my_Text", "5"), ("clob x", "5"),
                             ("varchar(5)", "5"), ("", "x5"), ("blob", "x5"), ("xblob", "x5"), ("decimal(3, -1)", 5),
                             ("blob text", "5"), ("date", 5), ("unsigned big int", 5)):
            self.run_all(f"create table t(a {kind})")
            self.db.execute("insert into t values(?)", ("5",))
            self.db.execute("insert into t values(?)", (5,))
            found = [row[0] for row in self.rows("select a from t")]
            self.assertEqual(found, ["5", 5] if wanted == "x5" else [wanted, wanted])
            self.run_all("drop table t")

    def test_a_function_on_a_placeholder_sees_the_bound_value(self):
        self.assertEqual(self.value("typeof(?)||typeof(?)||typeof(?)", (1, "1", None)), "integertextnull")

    def test_results_beyond_64_bits(self):
        for expression in ("9223372036854775807 + 1", "-9223372036854775808 - 1", "- -9223372036854775808",
                           "9223372036854775807 * 2", "-9223372036854775808 / -1", "abs(-9223372036854775808)",
                           "null + (9223372036854775807 + 1)", "- '-9223372036854775808'"):
            self.refuses(ERROR, "select " + expression)
        self.same_values({"-9223372036854775808": -2 ** 63, "- 9223372036854775807 - 1": -2 ** 63,
                          "+ - 9223372036854775808": -2 ** 63, "9223372036854775806 + 1": 2 ** 63 - 1})


if __name__ == "__main__":
    unittest.main()
