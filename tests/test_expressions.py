import unittest

from support import ERROR, DatabaseTest


class ExpressionsTest(DatabaseTest):
    """Points 12 and 15 to 19."""

    def setUp(self):
        super().setUp()
        self.run_all("create table t(i integer, s text, n, c text collate nocase, r text collate rtrim)",
                     "insert into t values(5, '5', '5', 'Ab', 'x ')")

    def column_value(self, expression):
        return self.rows(f"select {expression} from t")[0][0]

    def test_arithmetic(self):
        self.same_values({
            "1 + 2 * 3": 7, "(1 + 2) * 3": 9, "7 / 2": 3, "-7 / 2": -3, "7 / -2": -3, "-7 / -2": 3, "10 - 4 - 3": 3,
            "100 / 10 / 5": 2, "2 * 3 / 4": 1, "'3x' * '2'": 6, "- '3'": -3, "+ '3'": "3", "- - 3": 3, "+ - + 4": -4,
            "1 || 2 * 3": 36, "- 1 || 2": "-12", "1 - -1": 2, "'a' + 1": 1, "-(3)": -3, "- 'x'": 0,
        })
        for expression in ("1 / 0", "null + 1", "1 * null", "- null", "0 / 0", "null / 0", "'x' / 'y'", "null || 'a'"):
            self.assertIsNone(self.value(expression))

    def test_concatenation(self):
        self.same_values({"'a' || 'b' || 1": "ab1", "-5 || ''": "-5", "1 || 2 + 3": 15, "'' || ''": ""})

    def test_logic(self):
        self.same_values({
            "not 0": 1, "not 5": 0, "not not 5": 1, "not not not 5": 0, "1 and 2": 1, "1 and 0": 0, "null and 0": 0,
            "0 and null": 0, "1 or null": 1, "null or 1": 1, "0 or 0": 0, "not 1 = 2": 1, "not 0 and 0": 0,
            "1 or 0 and 0": 1, "(1 or 0) and 0": 0, "null or null or 3": 1, "null and 1 and 0": 0, "'x' or 0": 0,
        })
        for expression in ("not null", "null and 1", "null or 0", "1 and null", "0 or null", "not not null"):
            self.assertIsNone(self.value(expression))

    def test_what_is_not_computed(self):
        overflow = "(9223372036854775807 + 1)"
        self.same_values({
            f"0 and {overflow}": 0, f"1 or {overflow}": 1, f"case when 0 then {overflow} else 2 end": 2,
            f"case when 1 then 2 when {overflow} then 3 end": 2, f"coalesce(1, {overflow})": 1,
            f"ifnull(1, {overflow})": 1, f"1 in (1, {overflow})": 1, f"case 1 when 1 then 2 when {overflow} then 3 end": 2,
            f"1 between 2 and {overflow}": 0,
        })
        for expression in (f"null and {overflow}", f"null or {overflow}", f"null = {overflow}", f"null || {overflow}",
                           f"coalesce(null, {overflow})", f"nullif(1, {overflow})", f"2 in (1, {overflow})",
                           f"null in ({overflow})", f"case {overflow} when 1 then 2 end", f"min(null, {overflow})",
                           f"null is {overflow}", f"{overflow} isnull", f"{overflow} in ()"):
            self.refuses(ERROR, "select " + expression)

    def test_comparisons(self):
        self.same_values({
            "1 = 1": 1, "1 == 2": 0, "1 <> 2": 1, "1 != 1": 0, "1 < 2": 1, "2 <= 2": 1, "3 > 4": 0, "4 >= 4": 1,
            "5 < 'a'": 1, "'' > 9": 1, "1 = '1'": 0, "null is null": 1, "null is 1": 0, "1 is not null": 1,
            "1 is not 1": 0, "1 is 1": 1, "'a' is 'A'": 0, "1 < 2 < 3": 1, "3 > 2 > 1": 0, "1 = 1 = 1": 1, "2 = 2 = 2": 0,
            "1 < 2 = 1": 1, "2 = 2 < 3": 0, "2 == 2 < 3": 0, "1 <> 2 < 3": 0, "1 != 2 < 3": 0, "2 is 2 < 3": 0,
            "1 is not 2 < 3": 0, "1 + 1 <= 2": 1, "3 >= 1 + 1": 1, "1 + 1 > 1": 1, "2 < 1 + 2": 1, "1 - 2 * 3": -5,
            "2 <> 1": 1, "2 != 1": 1, "1 != 2": 1, "1 is not 2": 1, "2 is not 1": 1, "1 <> 1": 0, "6 * 1 || 2": 72,
            "6 / 1 || 2": 0, "1 between 1 and 1 < 2": 1, "null is not null": 0, "null isnull": 1, "1 isnull": 0, "1 notnull": 1, "null not null": 0,
            "1 not null": 1, "null isnull isnull": 0, "1 = null isnull": 1, "null is null is 1": 1, "1 + 1 isnull": 0,
        })
        for expression in ("null = null", "1 = null", "null < 1", "null <> null", "null >= 'a'", "null between 1 and 2"):
            self.assertIsNone(self.value(expression))

    def test_affinity_in_comparisons(self):
        for expression, wanted in (
                ("i = '5'", 1), ("i = ' 5 '", 1), ("i = '5x'", 0), ("'5' = i", 1), ("(i) = '5'", 1), ("+ i = '5'", 0),
                ("s = 5", 1), ("5 = s", 1), ("s = i", 1), ("s < 10", 0), ("n = 5", 0), ("n = '5'", 1), ("n = i", 1),
                ("n = s", 1), ("s collate nocase = 5", 1), ("- i = '-5'", 0), ("i = 5 || ''", 1), ("i in ('5')", 1),
                ("+ i in ('5')", 0), ("'5' in (i)", 0), ("s in (5)", 1), ("i between '4' and '6'", 1), ("5 is s", 1),
                ("rowid = '1'", 1), ("case i when '5' then 1 else 0 end", 1), ("case '5' when i then 1 else 0 end", 1),
                ("nullif(i, '5')", 5), ("i = s = '1'", 0), ("+ s = 5", 0)):
            with self.subTest(expression=expression):
                self.assertEqual(self.column_value(expression), wanted)

    def test_the_collation_of_comparisons(self):
        for expression, wanted in (
                ("c = 'aB'", 1), ("'aB' = c", 1), ("c = 'aB' collate binary", 0), ("c collate binary = 'aB'", 0),
                ("(c) = 'aB'", 1), ("+ c = 'aB'", 1), ("+ + (c) = 'aB'", 1), ("c || '' = 'aB'", 0), ("r = 'x'", 1),
                ("s = 'x' collate nocase", 0), ("c = r", 0), ("'AB' = (c collate binary || '')", 0),
                ("lower(c collate nocase) = 'AB'", 1), ("c in ('ab')", 1), ("'ab' in (c)", 0), ("c between 'aa' and 'az'", 1),
                ("'ab' between c and c", 1), ("('Ab' collate nocase) || '' = 'aB'", 1), ("- c = 0", 1),
                ("case when 0 then 'q' collate nocase else 'Ab' end = 'aB'", 1), ("c not in ('ab')", 0),
                ("'AB' collate binary collate nocase = 'ab'", 1), ("'AB' collate nocase collate binary = 'ab'", 0),
                ("case c when 'ab' then 1 else 0 end", 1), ("nullif('ab', c) isnull", 1), ("nullif(s, c) isnull", 0),
                ("min(c, 'AA')", "AA"), ("max('aB', c)", "aB"), ("max(c, 'aB')", "Ab"), ("max('aB', s, c)", "aB"),
                ("('ab' = 'x') collate nocase = 'AB'", 0), ("'x' = 'X' collate nocase = 1", 1)):
            with self.subTest(expression=expression):
                self.assertEqual(self.column_value(expression), wanted)

    def test_between_and_in(self):
        self.same_values({
            "2 between 1 and 3": 1, "0 between 1 and 3": 0, "2 not between 1 and 3": 0, "1 in (1, 2)": 1,
            "3 in (1, 2)": 0, "3 not in (1, 2)": 1, "1 in (null, 1)": 1, "1 in ()": 0, "null in ()": 0,
            "null not in ()": 1, "2 between null and 1": 0, "0 not between 1 and null": 1, "1 not in (1, null)": 0, "0 between 1 and null": 0, "2 between 1 and 2 and 0": 0,
            "1 between 0 and 1 between 1 and 1": 1, "1 = 5 between 4 and 6": 0, "1 = 5 not between 4 and 6": 1, "1 in (1) in (1)": 1, "1 + 1 between 1 + 0 and 2 * 2": 1,
        })
        for expression in ("null in (1)", "3 in (1, null)", "3 not in (1, null)", "2 between null and 3",
                           "2 between 1 and null", "null not in (1)", "null between 1 and 2"):
            self.assertIsNone(self.value(expression))

    def test_case(self):
        self.same_values({
            "case when 0 then 'a' when 2 then 'b' end": "b", "case 2 when 1 then 'a' when 2 then 'b' else 'c' end": "b",
            "case 3 when 1 then 'a' else 'c' end": "c", "case null when null then 1 else 2 end": 2,
            "case when null then 1 else 2 end": 2, "case 1 when null then 1 when 1 then 4 end": 4,
        })
        self.assertIsNone(self.value("case 3 when 1 then 'a' end"))

    def test_where_operators_must_be_in_brackets(self):
        for text in ("1 isnull < 1", "1 in (1) + 1", "1 between 1 and 2 * not 1", "1 = not 1", "- not 1", "1 + not 1", "1 not = 2", "1 notnull < 1", "1 not null < 2", "not 1 isnull < 1", "case 1 end",
                     "1 not null || 'a'", "1 is not null < 1", "1 in (1) < 2", "1 between 1 = 1 and 2", "not", "1 not",
                     "1 not 2", "1 like 2", "1 is", "1 between 1", "1 in 2", "1 in (select 1)", "1 collate 'x'", "(1, 2)",
                     "1 % 2", "1 & 2", "~1", "1 = = 1", "case end", "case when 1 end", "case 1 then 2 end", "()", "1.5"):
            if text == "1 is not null < 1":
                self.assertEqual(self.value(text), 1)
                continue
            self.refuses(ERROR, "select " + text)
        self.same_values({"(1 isnull) < 1": 1, "1 < (2 in (3))": 0, "1 = (not 1)": 0, "- (not 0)": -1, "1 and not 0": 1})

    def test_functions(self):
        self.same_values({
            "abs(-5)": 5, "abs('-5x')": 5, "abs('q')": 0, "length('abc')": 3, "length(-12)": 3, "length('')": 0,
            "lower('AbZ[1')": "abz[1", "upper('abZ[1')": "ABZ[1", "lower(12)": "12", "instr('banana', 'an')": 2,
            "instr('abc', 'x')": 0, "instr('abc', '')": 1, "instr('', '')": 1, "instr(1234, 34)": 3, "instr('', 'a')": 0,
            "replace('aaa', 'a', 'bc')": "bcbcbc", "replace('aaa', 'aa', 'b')": "ba", "replace(121, 1, 3)": "323",
            "replace(5, '', 'x')": 5, "replace('a', '', null)": "a", "replace('abc', 'x', 1)": "abc", "quote('it''s')": "'it''s'",
            "quote(5)": "5", "quote(null)": "NULL", "quote('')": "''", "typeof(null)": "null", "typeof(5)": "integer",
            "typeof('')": "text", "coalesce(null, null, 3)": 3, "coalesce(0, 1)": 0, "ifnull(null, 2)": 2, "nullif(1, 2)": 1,
            "nullif('a', 'A')": "a", "min(3, 1, 2)": 1, "max(3, 'a', 2)": "a", "min('b', 5)": 5, "\"abs\"(-1)": 1,
            "min('a', 'A' collate nocase)": "a", "max('a', 'B')": "a", "max('a', 'B' collate nocase)": "B", "LENGTH('x')": 1,
            "nullif('a' collate nocase, 'A') isnull": 1, "REPLACE('aXa', 'X', '')": "aa",
        })
        for expression in ("abs(null)", "length(null)", "lower(null)", "upper(null)", "instr(null, 'a')", "instr('a', null)",
                           "replace(null, 'a', 'b')", "replace('a', null, 'b')", "replace('a', 'b', null)",
                           "replace(null, '', 'b')", "coalesce(null, null)", "nullif(1, 1)", "min(1, null)",
                           "max(null, 1)", "nullif(null, null)", "ifnull(null, null)"):
            self.assertIsNone(self.value(expression))

    def test_wrong_numbers_of_arguments_and_names(self):
        for call in ("abs()", "abs(1, 2)", "length()", "instr('a')", "replace('a', 'b')", "coalesce(1)", "ifnull(1)",
                     "ifnull(1, 2, 3)", "nullif(1)", "typeof(1, 2)", "changes(1)", "nosuch(1)", "min()", "quote()",
                     "abs(*)", "abs(distinct 1)", "coalesce()", "group_concat()", "group_concat(1, 2, 3)", "sum(1, 2)",
                     "count(1, 2)", "max(*)", "last_insert_rowid(1)", "total_changes(2)"):
            self.refuses(ERROR, "select " + call)

    def test_long_chains_need_no_deep_recursion(self):
        self.assertEqual(self.value("+".join(["1"] * 900)), 900)
        self.assertEqual(self.value(" or ".join(["0"] * 300)), 0)
        self.assertEqual(self.value("not " * 400 + "1"), 1)
        self.assertEqual(self.value("- " * 801 + "1"), -1)
        self.assertEqual(self.value("1" + " = 1" * 400), 1)
        self.assertEqual(self.value("1" + " isnull" * 200), 0)
        self.assertEqual(self.value("'a'" + " || 'b'" * 200), "a" + "b" * 200)
        self.assertEqual(self.value("(" * 40 + "7" + ")" * 40), 7)
        self.assertEqual(self.value("1 + abs(" * 25 + "0" + ")" * 25), 25)

    def test_placeholders_within_expressions(self):
        self.assertEqual(self.rows("select ? + ?2, ?1 || :x", {"1": 1, "2": 2, "x": "z"}), [(3, "1z")])


if __name__ == "__main__":
    unittest.main()
