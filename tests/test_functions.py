import unittest

from cursorhouse.errors import DataError, Error
from support import ERROR, PROGRAMMING, UNIQUE, DatabaseTest


class FunctionsTest(DatabaseTest):
    """Points 20, 21 and 65."""

    def test_a_function(self):
        told = []
        self.db.create_function("F", 2, lambda *values: told.append(values) or values[0])
        self.assertEqual(self.rows("select f(1, 'x'), F(null, 2)"), [(1, None)])
        self.assertEqual(sorted(told, key=str), [(1, "x"), (None, 2)])
        self.refuses(ERROR, "select f(1)", "select f(1, 2, 3)", "select f()", "select f(*)", "select f(distinct 1)")

    def test_results(self):
        for result, wanted in ((5, 5), ("x", "x"), (None, None), (True, 1), (False, 0), (2 ** 63 - 1, 2 ** 63 - 1), ("", "")):
            self.db.create_function("f", 0, lambda: result)
            found = self.value("f()")
            self.assertEqual((found, type(found)), (wanted, type(wanted)))
        for result in (2 ** 63, -2 ** 63 - 1, [], (1,), {}, 1.5, b"", object()):
            self.db.create_function("f", 0, lambda: result)
            self.db.create_aggregate("g", 0, lambda rows: result)
            self.refuses(ERROR, "select f()", "select g()")

    def test_errors(self):
        self.run_all("create table t(a)")
        for error in (Error("x"), DataError(), KeyError("k"), ZeroDivisionError()):
            def fail(*told):
                raise error
            self.db.create_function("f", -1, fail)
            self.db.create_aggregate("g", -1, fail)
            self.refuses(ERROR, "select f(1)", "select g(1)", "insert into t values(1), (f())", "insert or fail into t values(1), (f())")
        self.assertEqual((self.rows("select * from t"), self.db.lock), ([], 0))

    def test_numbers_of_arguments(self):
        self.db.create_function("f", 1, lambda x: "one")
        self.db.create_function("f", -1, lambda *values: len(values))
        self.db.create_function("f", 9, lambda *values: "nine")
        nine = ", ".join("123456789")
        self.assertEqual(self.rows(f"select f(), f(1), f(1, 2), f({nine})"), [(0, "one", 2, "nine")])
        self.refuses(ERROR, f"select f({nine}, 10)")
        self.db.create_function("f", 1, None)
        self.db.create_function("f", 9, None)
        self.assertEqual(self.rows(f"select f(5), f({nine})"), [(1, 9)])
        for narg in (-2, 10, 100, True, False, None, "1", [1], 1.0):
            self.refused(PROGRAMMING, self.db.create_function, "f", narg, len)
            self.refused(PROGRAMMING, self.db.create_aggregate, "f", narg, None)
        self.assertEqual(self.rows("select f(5)"), [(1,)])

    def test_in_the_place_of_built_in_ones(self):
        self.db.create_function("abs", 1, lambda x: "mine")
        self.db.create_function("SUM", 1, lambda x: x)
        self.db.create_function("coalesce", -1, lambda *values: "all")
        self.run_all("create table t(a)", "insert into t values(3), (4)")
        self.assertEqual(self.rows("select ABS(-1), sum(a) from t where coalesce(1) = 'all'"), [("mine", 3), ("mine", 4)])
        self.db.create_function("abs", 1, None)
        self.db.create_function("sum", 1, None)
        self.db.create_function("coalesce", -1, None)
        self.db.create_function("coalesce", -1, None)
        self.assertEqual(self.rows("select abs(-1), sum(a), coalesce(null, 5) from t"), [(1, 7, 5)])
        self.db.create_function("max", 2, lambda x, y: 0)
        self.assertEqual(self.rows("select max(1, 2), max(1, 2, 3)"), [(0, 3)])

    def test_count(self):
        self.run_all("create table t(a)", "insert into t values(3), (3), (null)")
        self.db.create_function("count", 0, lambda: "none")
        self.assertEqual(self.rows("select count(*), count() from t limit 1"), [("none", "none")])
        self.assertEqual(self.rows("select count(a), count(distinct a) from t"), [(2, 1)])
        self.db.create_aggregate("count", 0, len)
        self.assertEqual(self.rows("select count(*), count() from t"), [(3, 3)])
        self.db.create_function("count", 1, lambda x: "one")
        self.refuses(ERROR, "select count(distinct a) from t")
        self.db.create_function("count", 1, None)
        self.db.create_function("count", -1, None)
        self.db.create_aggregate("count", -1, lambda rows: rows[0][0])
        self.refuses(ERROR, "select count(distinct a) from t")
        self.assertEqual(self.rows("select count(*), count(a) from t"), [(3, 3)])

    def test_aggregates(self):
        told = []
        self.db.create_aggregate("g", 2, lambda rows: told.append(list(rows)) or rows.clear() or len(told))
        self.run_all("create table t(a, b)", "insert into t values(1, 'x'), (2, null), (1, 'y')")
        self.assertEqual(self.rows("select a, g(b, a) from t group by a"), [(1, 1), (2, 2)])
        self.assertEqual(told, [[("x", 1), ("y", 1)], [(None, 2)]])
        self.assertEqual(self.rows("select g(1, 2) from t where 0"), [(3,)])
        self.assertEqual(told[2], [])
        self.assertEqual(self.rows("select g(1, 2) from t where 0 group by a"), [])
        self.db.create_aggregate("h", 0, lambda rows: len(rows))
        self.assertEqual(self.rows("select h() from t"), [(3,)])
        self.refuses(ERROR, "select a from t where h()", "select h(g(1, 2)) from t", "select sum(h()) from t", "select a from t group by h()")

    def test_aggregates_and_functions_take_each_others_place(self):
        self.run_all("create table t(a)", "insert into t values(1), (2)")
        self.db.create_aggregate("f", 1, len)
        self.assertEqual(self.rows("select f(a) from t"), [(2,)])
        self.db.create_function("F", 1, lambda x: -x)
        self.assertEqual(self.rows("select f(a) from t"), [(-1,), (-2,)])
        self.db.create_aggregate("f", 1, None)
        self.refuses(ERROR, "select f(a) from t")
        self.db.create_aggregate("abs", 1, len)
        self.assertEqual(self.rows("select abs(a) from t"), [(2,)])
        self.db.create_function("abs", 1, None)
        self.assertEqual(self.rows("select abs(a) from t"), [(1,), (2,)])

    def test_they_belong_to_one_connection(self):
        self.db.create_function("f", 0, lambda: 1)
        self.refused(ERROR, self.connect().execute, "select f()")

    def test_a_check_with_a_function_that_became_an_aggregate(self):
        self.db.create_function("f", 1, lambda x: 1)
        self.run_all("create table t(a check (f(a)))", "insert into t values(1)")
        self.db.create_aggregate("f", 1, len)
        self.refuses(ERROR, "insert into t values(1)", "select * from t")
        self.run_all("drop table t")


def backwards(one, other):
    return (one < other) - (one > other)


class CollationsTest(DatabaseTest):
    """Point 66."""

    def setUp(self):
        super().setUp()
        self.db.create_collation("Back", backwards)
        self.run_all("create table t(a collate back, b)", "insert into t values('x', 'x'), ('y', 'y'), (null, null), (5, 5), ('x', 'z')")

    def test_comparing_and_sorting(self):
        self.assertEqual(self.rows("select a < 'xx', b < 'xx', b < 'xx' collate BACK, a < 6 from t where a = 'y'"), [(1, 0, 1, 0)])
        self.assertEqual(self.rows("select a from t order by a, b"), [(None,), (5,), ("y",), ("x",), ("x",)])
        self.assertEqual(self.rows("select b from t order by 1 collate back desc"), [("x",), ("y",), ("z",), (5,), (None,)])
        self.assertEqual(self.rows("select a, count(*) from t group by a"), [(None, 1), (5, 1), ("y", 1), ("x", 2)])
        self.assertEqual(self.rows("select distinct a from t"), [("x",), ("y",), (None,), (5,)])
        self.assertEqual(self.rows("select min(a), max(a), min(b), min('a', 'b' collate back), count(distinct a) from t"), [(5, "x", 5, "b", 3)])

    def test_equal_texts(self):
        self.db.create_collation("len", lambda one, other: len(one) - len(other))
        self.run_all("create table u(a collate len unique)", "insert into u values('ab')")
        self.refuses(UNIQUE, "insert into u values('xy')")
        self.assertEqual(self.rows("select distinct b || '' collate len from t"), [("x",), (None,)])
        self.assertEqual(self.rows("select 'ab' in ('xy'), 'ab' collate len in ('xy'), nullif('a' collate len, 'b')"), [(0, 1, None)])
        self.assertEqual(self.rows("select group_concat(b) from t group by b collate len"), [(None,), ("5",), ("x,y,z",)])

    def test_many_texts(self):
        self.run_all("create table u(a)")
        texts = [first + second for first in "dbacfe" for second in "xzy"]
        self.db.executemany("insert into u values(?)", [(text,) for text in texts])
        found = [row[0] for row in self.rows("select a from u order by a collate back")]
        self.assertEqual(found, sorted(texts, reverse=True))
        self.assertEqual(self.rows("select count(*) from u group by a collate back"), [(1,)] * 18)

    def test_it_is_told_only_texts(self):
        told = []
        self.db.create_collation("spy", lambda one, other: told.append((one, other)) or (one > other) - (one < other))
        self.rows("select b from t order by b collate spy")
        self.rows("select 1 = 2 collate spy, null = 'a' collate spy, 1 < 'a' collate spy")
        self.assertTrue(told)
        self.assertTrue(all(isinstance(text, str) for pair in told for text in pair))

    def test_replacing_those_that_are_there(self):
        self.db.create_collation("binary", backwards)
        self.assertEqual(self.rows("select 'a' < 'b', b < 'xx' from t where b = 'x'"), [(0, 0)])
        self.assertEqual(self.rows("select b from t order by b desc limit 1"), [("x",)])
        self.db.create_collation("NoCase", lambda one, other: 0)
        self.assertEqual(self.value("'a' = 'q' collate nocase"), 1)
        for name in ("Binary", "nocase", "rtrim", "nosuch"):
            self.db.create_collation(name=name, function=None)
        self.assertEqual(self.rows("select 'a' < 'b', 'a' = 'q' collate nocase, 'a' = 'A' collate nocase"), [(1, 0, 1)])

    def test_removing(self):
        self.db.create_collation("BACK", None)
        self.refuses(ERROR, "select a from t", "select 'a' collate back", "insert into t values(1, 2)")
        self.refused(ERROR, self.connect().execute, "select b from t")

    def test_what_it_raises(self):
        def fail(one, other):
            raise LookupError(one)
        self.db.create_collation("fail", fail)
        self.run_all("create table u(a collate fail unique)", "insert into u values('x')")
        for text in ("select 'a' = 'b' collate fail", "select b from t order by b collate fail", "insert into u values(1), ('y')",
                     "insert or ignore into u values(2), ('y')", "insert or fail into u values(3), ('y')", "insert or rollback into u values(4), ('y')"):
            self.assertRaises(LookupError, self.db.execute, text)
            self.assertEqual((self.db.lock, self.db.in_transaction), (0, False))
        self.run_all("begin", "insert into u values(9)")
        self.assertRaises(LookupError, self.db.execute, "insert or rollback into u values(4), ('y')")
        self.assertEqual((self.db.lock, self.db.in_transaction), (2, True))
        self.run_all("commit")
        self.assertEqual((self.rows("select a from u"), self.rows("select changes()")), ([("x",), (9,)], [(0,)]))

    def test_an_integrity_error_from_outside_breaks_no_constraint(self):
        def fail(one, other):
            raise self.error
        self.error = Error("mine")
        self.db.create_collation("fail", fail)
        self.run_all("create table u(a collate fail unique)", "insert into u values('x')")
        self.refuses("Error mine", "insert or ignore into u values('y')", "insert or fail into u values(1), ('y')")
        self.assertEqual(self.rows("select a from u"), [("x",)])


if __name__ == "__main__":
    unittest.main()
