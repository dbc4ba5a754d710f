import unittest

from support import ERROR, MISMATCH, DatabaseTest


class SelectsTest(DatabaseTest):
    """Points 21 and 29 to 31."""

    def setUp(self):
        super().setUp()
        self.run_all("create table t(a integer, b text collate nocase, c)", "create table u(k integer primary key, v)",
                     "insert into t values(1, 'x', 10), (2, 'X', null), (3, 'y', 30), (1, null, 40)", "insert into u values(5, 1), (2, 3)")

    def test_rows_come_by_rowid(self):
        self.run_all("create table w(a unique)", "insert into w(rowid, a) values(3, 1), (1, 2), (2, 0)")
        self.assertEqual(self.rows("select a from w where a >= 0"), [(2,), (0,), (1,)])

    def test_joins(self):
        self.assertEqual(self.rows("select a, k from t, u where a < 3"), [(1, 2), (1, 5), (2, 2), (2, 5), (1, 2), (1, 5)])
        self.assertEqual(self.rows("select c, k from t join u on a = v"), [(10, 5), (30, 2), (40, 5)])
        self.assertEqual(self.rows("select c, u.* from t left join u on a = v"), [(10, 5, 1), (None, None, None), (30, 2, 3), (40, 5, 1)])
        self.assertEqual(self.rows("select c from t left join u on a = v where u.rowid isnull"), [(None,)])
        self.assertEqual(self.rows("select t.a, p.k, q.k from t left join u p on a = p.v and 0 left join u q on p.k isnull and q.k = 2 where c"),
                         [(1, None, 2), (3, None, 2), (1, None, 2)])
        self.assertEqual(self.rows("select t.a, u.k from u inner join t on v = a order by t.c"), [(1, 5), (3, 2), (1, 5)])
        self.assertEqual(self.rows("select count(*) from t, u p, u q"), [(16,)])
        self.assertEqual(self.rows("select 1 from t left join u on 0 where u.k"), [])
        self.run_all("delete from u")
        self.assertEqual(self.rows("select a, k from t, u"), [])
        self.assertEqual(self.rows("select a, k from t left join u on 1 limit 1"), [(1, None)])

    def test_without_sources(self):
        self.assertEqual(self.rows("select 1, 2 where 1"), [(1, 2)])
        self.assertEqual(self.rows("select 1 where null"), [])
        self.assertEqual(self.rows("select count(*), max(5)"), [(1, 5)])
        self.assertEqual(self.rows("select count(*), max(5) where 0"), [(0, None)])

    def test_where(self):
        self.assertEqual(self.rows("select a from t where c > 15 or b = 'X'"), [(1,), (2,), (3,), (1,)])
        self.assertEqual(self.rows("select a from t where b"), [])
        self.refuses(ERROR, "select a from t where 0 and 1 or 9223372036854775807 + a")

    def test_groups(self):
        self.assertEqual(self.rows("select b, count(*), sum(c) from t group by b"), [(None, 1, 40), ("x", 2, 10), ("y", 1, 30)])
        self.assertEqual(self.rows("select a, c from t group by a"), [(1, 10), (2, None), (3, 30)])
        self.assertEqual(self.rows("select a, b from t group by a, b"), [(1, None), (1, "x"), (2, "X"), (3, "y")])
        self.assertEqual(self.rows("select b collate binary from t group by 1"), [(None,), ("X",), ("x",), ("y",)])
        self.assertEqual(self.rows("select b || '' as z from t group by z collate nocase"), [(None,), ("x",), ("y",)])
        self.assertEqual(self.rows("select a + 0 as c from t group by c"), [(2,), (1,), (3,), (1,)])
        self.assertEqual(self.rows("select b from t group by 1 collate binary"), [(None,), ("X",), ("x",), ("y",)])
        self.assertEqual(self.rows("select count(*) from t where 0 group by a"), [])
        self.assertEqual(self.rows("select count(*) from t group by 'q'"), [(4,)])

    def test_having(self):
        self.assertEqual(self.rows("select b from t group by b having count(*) > 1"), [("x",)])
        self.assertEqual(self.rows("select sum(c) as s from t group by a having s = 50"), [(50,)])
        self.assertEqual(self.rows("select count(*) from t having count(*) > 9"), [])
        self.assertEqual(self.rows("select b from t group by b having null"), [])
        self.assertEqual(self.rows("select b from t group by b having c = 10"), [("x",)])

    def test_aggregates(self):
        self.assertEqual(self.rows("select count(*), count(), count(c), count(distinct a), count(distinct b), sum(a), min(b), max(b) from t"),
                         [(4, 4, 3, 3, 2, 7, "x", "y")])
        self.assertEqual(self.rows("select group_concat(b), group_concat(a, b), group_concat(c, '-'), sum(b) from t"), [("x,X,y", "1X2y31", "10-30-40", 0)])
        self.assertEqual(self.rows("select count(*), count(a), sum(a), min(a), max(a), group_concat(a), group_concat(a, 1) from t where 0"),
                         [(0, 0, None, None, None, None, None)])
        self.assertEqual(self.rows("select group_concat(a, null), min(null), sum(null) from t"), [("1231", None, None)])
        self.assertEqual(self.rows("select min(b collate binary), max(b collate binary), count(distinct b collate binary) from t"), [("X", "y", 3)])
        self.assertEqual(self.rows("select max(a) + count(*), abs(-sum(a)) from t"), [(7, 7)])
        self.run_all("insert into t values('3x', 'q', '2')")
        self.assertEqual(self.rows("select sum(a), sum(c), max(a), min(c) from t"), [(10, 82, "3x", 10)])

    def test_sums_beyond_64_bits(self):
        self.run_all("create table w(x)", "insert into w values(9223372036854775807), (1), (-5)")
        self.refuses(ERROR, "select sum(x) from w", "select 1 from w group by 1 having sum(x) > 0")
        self.assertEqual(self.rows("select sum(x) from w where x <> 1"), [(2 ** 63 - 6,)])
        self.refuses(ERROR, "select 5, case when 0 then sum(x) end from w")

    def test_the_combination_that_stands_for_a_group(self):
        self.assertEqual(self.rows("select c, count(*) from t"), [(10, 4)])
        self.assertEqual(self.rows("select a, max(c) from t"), [(1, 40)])
        self.assertEqual(self.rows("select rowid, min(a), count(*) from t"), [(1, 1, 4)])
        self.assertEqual(self.rows("select rowid, max(b), max( B ) from t"), [(3, "y", "y")])
        self.assertEqual(self.rows("select rowid, b, min(c) from t group by b"), [(4, None, 40), (1, "x", 10), (3, "y", 30)])
        self.assertEqual(self.rows("select rowid, c, min(null) from t"), [(1, 10, None)])
        self.assertEqual(self.rows("select rowid, min(-c) from t"), [(4, -40)])
        self.assertEqual(self.rows("select rowid, sum(a), min(b collate binary) from t"), [(2, 7, "X")])
        self.assertEqual(self.rows("select rowid, a, count(*), max(a) from t where 0"), [(None, None, 0, None)])
        self.db.create_aggregate("min", 1, lambda rows: 7)
        self.assertEqual(self.rows("select rowid, min(c) from t"), [(1, 7)])

    def test_distinct(self):
        self.assertEqual(self.rows("select distinct b from t"), [("x",), ("y",), (None,)])
        self.assertEqual(self.rows("select distinct b collate binary from t"), [("x",), ("X",), ("y",), (None,)])
        self.assertEqual(self.rows("select distinct a from t order by a desc"), [(3,), (2,), (1,)])
        self.assertEqual(self.rows("select distinct null from t"), [(None,)])
        self.assertEqual(self.rows("select distinct a, b from t"), [(1, "x"), (2, "X"), (3, "y"), (1, None)])
        self.assertEqual(self.rows("select distinct b from t order by rowid desc"), [(None,), ("y",), ("x",)])
        self.assertEqual(self.rows("select distinct count(*) from t group by a"), [(2,), (1,)])

    def test_order_by(self):
        self.assertEqual(self.rows("select a, c from t order by a, c desc"), [(1, 40), (1, 10), (2, None), (3, 30)])
        self.assertEqual(self.rows("select rowid from t order by b"), [(4,), (1,), (2,), (3,)])
        self.assertEqual(self.rows("select rowid from t order by b desc"), [(3,), (1,), (2,), (4,)])
        self.assertEqual(self.rows("select rowid from t order by b collate binary"), [(4,), (2,), (1,), (3,)])
        self.assertEqual(self.rows("select b, a from t order by 2 desc, 1"), [("y", 3), ("X", 2), (None, 1), ("x", 1)])
        self.assertEqual(self.rows("select rowid from t order by - a, + c desc"), [(3,), (2,), (4,), (1,)])
        self.assertEqual(self.rows("select a as c, c as d from t order by c"), [(1, 10), (1, 40), (2, None), (3, 30)])
        self.assertEqual(self.rows("select -a as c from t order by (c)"), [(-3,), (-2,), (-1,), (-1,)])
        self.assertEqual(self.rows("select -a as c from t order by c + 0"), [(-2,), (-1,), (-3,), (-1,)])
        self.assertEqual(self.rows("select -a as c, c as d from t order by c collate nocase"), [(-3, 30), (-2, None), (-1, 10), (-1, 40)])
        self.assertEqual(self.rows("select -a as x, c as y from t order by y"), [(-2, None), (-1, 10), (-3, 30), (-1, 40)])
        self.assertEqual(self.rows("select c as x from t order by a desc"), [(30,), (None,), (10,), (40,)])
        self.assertEqual(self.rows("select a as x, -a as x from t order by x"), [(1, -1), (1, -1), (2, -2), (3, -3)])
        self.assertEqual(self.rows("select b || '' as z from t order by z"), [(None,), ("X",), ("x",), ("y",)])
        self.assertEqual(self.rows("select b || '' as z from t order by (z) collate nocase"), [(None,), ("x",), ("X",), ("y",)])
        self.assertEqual(self.rows("select b || '' from t order by 1 collate nocase desc"), [("y",), ("x",), ("X",), (None,)])
        self.assertEqual(self.rows("select rowid from t order by 'q', null desc"), [(1,), (2,), (3,), (4,)])
        self.assertEqual(self.rows("select b, count(*) from t group by b order by count(*) desc, b desc"), [("x", 2), ("y", 1), (None, 1)])
        self.assertEqual(self.rows("select t.* from t order by 3 desc limit 1"), [(1, None, 40)])

    def test_limit_and_offset(self):
        for text, wanted in (("2", [1, 2]), ("0", []), ("-1", [1, 2, 3, 4]), ("2 offset 1", [2, 3]), ("9 offset 3", [4]), ("2 offset -5", [1, 2]),
                             ("-9 offset 2", [3, 4]), ("'2'", [1, 2]), ("1 + 1 offset ' 1 '", [2, 3]), ("9 offset 9", []), ("?", [1, 2])):
            given = (2,) if text == "?" else ()
            self.assertEqual([row[0] for row in self.rows("select rowid from t limit " + text, given)], wanted, text)
        self.refuses(MISMATCH, "select 1 limit 'x'", "select 1 limit null", "select 1 limit 1 offset null", "select 1 limit 1 offset ''",
                     "select 1 limit null offset 9223372036854775807 + 1")
        self.refuses(ERROR, "select 1 limit 9223372036854775807 + 1", "select 1 limit 1 offset 9223372036854775807 + 1",
                     "select 9223372036854775807 + 1 limit 0")

    def test_names_of_result_columns(self):
        for text, wanted in (
                ("select A, (a), ((t.B)), a + 1, a  +  /**/ 1 , +a, 'x' from t", ["a", "a", "b", "a + 1", "a  +  /**/ 1", "+a", "'x'"]),
                ("select * from t, u", ["a", "b", "c", "k", "v"]), ("select U.*, rowid as R from u", ["k", "v", "R"]),
                ("select rowid, (ROWID), t.rowid from t", ["rowid", "rowid", "rowid"]), ("select RowId from u", ["k"]),
                ("select a as \"x y\", b bb, c AS Cc from t", ["x y", "bb", "Cc"]), ("select count( * ), max(a) from t", ["count( * )", "max(a)"]),
                ("select (a + 1) from t", ["(a + 1)"]), ("select a collate nocase from t", ["a collate nocase"]), ("select ? ", ["?"])):
            given = (1,) if "?" in text else ()
            self.assertEqual([column[0] for column in self.db.execute(text, given).description], wanted)

    def test_equal_aggregates_are_computed_once(self):
        calls = []
        self.db.create_aggregate("f", 1, lambda rows: calls.append(rows) or len(calls))
        self.assertEqual(self.rows("select f(a), F( A ), f(c) from t having f(a) order by f(c)"), [(1, 1, 2)])
        self.assertEqual(calls, [[(1,), (2,), (3,), (1,)], [(10,), (None,), (30,), (40,)]])
        self.assertEqual(self.rows("select sum(?), sum(?) from u", (1, 2)), [(2, 4)])

    def test_insert_of_a_select(self):
        self.run_all("create table w(a integer, b text)", "insert into w(b, a) select k, max(v) from u group by k order by k desc")
        self.assertEqual(self.rows("select * from w"), [(1, "5"), (3, "2")])


if __name__ == "__main__":
    unittest.main()
