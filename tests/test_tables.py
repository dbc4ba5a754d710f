import unittest

from support import CHECK, ERROR, FULL, MISMATCH, NOT_NULL, PRIMARY_KEY, PROGRAMMING, ROWID, UNIQUE, DatabaseTest

GREATEST = 2 ** 63 - 1


class TablesTest(DatabaseTest):
    """Points 22 to 28."""

    def table(self, name="t"):
        return self.rows(f"select rowid, * from {name}")

    def test_columns_and_defaults(self):
        self.run_all("create table t(a, b default 5, c text default 6, d default (1 + 1), e default 'x''y', f default null, "
                     "g integer default '7', h default -3)", "insert into t(a) values(1)", "insert into t default values")
        self.assertEqual(self.table(), [(1, 1, 5, "6", 2, "x'y", None, 7, -3), (2, None, 5, "6", 2, "x'y", None, 7, -3)])

    def test_defaults_are_computed_for_each_row(self):
        calls = []
        self.db.create_function("f", 0, lambda: calls.append(1) or len(calls))
        self.run_all("create table t(a, b default (f()))", "insert into t(a) values(1), (2)", "insert into t values(3, 4)")
        self.assertEqual(self.table(), [(1, 1, 1), (2, 2, 2), (3, 3, 4)])

    def test_insert_by_listed_columns(self):
        self.run_all("create table t(a, b, c)", "insert into t(c, A) values(1, 2)", "insert into t(b, b, c) values(1, 2, 3)",
                     "insert into t(rowid, a) values('7', 'x')", "insert into t(rowid, b) values(null, 'y')")
        self.assertEqual(self.table(), [(1, 2, None, 1), (2, None, 1, 3), (7, "x", None, None), (8, None, "y", None)])
        self.refuses(MISMATCH, "insert into t(rowid) values('x')", "insert or ignore into t(rowid) values('')")

    def test_each_row_is_stored_before_the_next_one_is_made(self):
        self.run_all("create table t(a integer primary key, b)",
                     "insert into t(b) values(last_insert_rowid()), (last_insert_rowid()), (last_insert_rowid() + 10)")
        self.assertEqual(self.table(), [(1, 1, 0), (2, 2, 1), (3, 3, 12)])

    def test_rows_of_a_select_are_determined_first(self):
        self.run_all("create table t(a)", "insert into t values(1), (2)", "insert into t select a + 10 from t")
        self.assertEqual([row[1] for row in self.table()], [1, 2, 11, 12])
        self.run_all("insert into t select last_insert_rowid() from t limit 2")
        self.assertEqual([row[1] for row in self.table()][4:], [4, 4])

    def test_the_column_that_is_the_rowid(self):
        for definition, is_rowid in (("a integer primary key", True), ("a INTEGER, primary key(A)", True), ("a int primary key", False),
                                     ("a integer(4) primary key", False), ("a big integer primary key", False),
                                     ("a integer, b, primary key(a, b)", False), ("a integer unique", False)):
            self.run_all(f"create table t({definition})", "insert into t(a) values(null)", "update t set rowid = 9")
            self.assertEqual(self.rows("select rowid, a from t"), [(9, 9 if is_rowid else None)], definition)
            self.run_all("drop table t")

    def test_rowids_of_inserted_rows(self):
        self.run_all("create table t(a)", "insert into t values(1)", "insert into t(rowid) values(-9)", "insert into t values(2)",
                     "delete from t where rowid = 2", "insert into t values(3)")
        self.assertEqual(self.table(), [(-9, None), (1, 1), (2, 3)])
        self.run_all("delete from t where rowid > 0", "insert into t values(4)")
        self.assertEqual(self.table(), [(-9, None), (-8, 4)])
        self.run_all("delete from t", "insert into t values(5)")
        self.assertEqual(self.table(), [(1, 5)])

    def test_the_greatest_rowid(self):
        self.run_all("create table t(a)", f"insert into t(rowid) values({GREATEST - 1})", "insert into t values(5)")
        self.assertEqual(self.table()[-1], (GREATEST, 5))
        self.refuses(FULL, "insert into t values(6)")

    def test_full(self):
        self.run_all("create table t(a integer primary key, b not null)", f"insert into t values({GREATEST}, 1)")
        self.refuses(FULL, "insert into t(b) values(1)", "insert or ignore into t(b) values(null)", "insert or fail into t values(3, 4), (null, 1)")
        self.assertEqual(len(self.table()), 1)

    def test_autoincrement(self):
        self.run_all("create table t(a integer primary key autoincrement, b unique)", "insert into t values(-5, 1)", "insert into t values(null, 2)")
        self.assertEqual([row[0] for row in self.table()], [-5, 1])
        self.run_all("insert into t values(9, 3)", "delete from t where a = 9", "insert into t values(null, 4)")
        self.assertEqual(self.table()[-1], (10, 10, 4))
        self.run_all("insert or ignore into t values(20, 4)", "insert into t values(null, 5)")
        self.assertEqual(self.table()[-1][0], 21)
        self.run_all("insert or ignore into t values(null, 5)", "insert into t values(null, 6)")
        self.assertEqual(self.table()[-1][0], 23)

    def test_what_autoincrement_forgets(self):
        self.run_all("create table t(a integer primary key autoincrement, b unique)", "insert into t values(3, 1)")
        self.refuses(UNIQUE, "insert into t values(50, 2), (60, 1)", "insert or rollback into t values(50, 1)")
        self.refuses(MISMATCH, "insert into t values(50, 2), ('x', 9)")
        self.run_all("begin", "insert into t values(50, 2)", "rollback", "savepoint s", "insert into t values(50, 2)", "rollback to s", "release s",
                     "insert into t values(null, 2)")
        self.assertEqual(self.table()[-1][0], 4)
        self.refuses(UNIQUE, "insert or fail into t values(30, 3), (40, 1)")
        self.run_all("delete from t where a = 30", "insert into t values(null, 4)")
        self.assertEqual(self.table()[-1][0], 31)
        self.run_all("update t set a = 90 where a = 31", "insert into t values(null, 5)", "delete from t where a > 50")
        self.run_all("insert into t values(null, 6)")
        self.assertEqual(self.table()[-1][0], 92)
        self.run_all("update t set a = 200 where a = 92", "update t set a = 92 where a = 200", "insert into t values(null, 7)")
        self.assertEqual(self.table()[-1][0], 93)

    def test_autoincrement_at_the_end(self):
        self.run_all("create table t(a integer primary key autoincrement)", f"insert into t values({GREATEST})", "delete from t")
        self.refuses(FULL, "insert into t values(null)", "insert or ignore into t values(null)")
        self.run_all("insert into t values(5)")

    def test_mismatch(self):
        self.run_all("create table t(a integer primary key, b not null)", "insert into t values('3', 1)", "insert into t values(' 4 ', 1)")
        self.refuses(MISMATCH, "insert into t values('x', null)", "insert or ignore into t values('', 1)", "update t set a = null, b = null",
                     "update or ignore t set a = 'q'", "insert or fail into t values(7, 1), ('1x', 2)", "update t set rowid = null")
        self.run_all("create table u(a, b not null)", "insert into u values(1, 2)")
        self.refuses(MISMATCH, "update u set rowid = 'x', b = null", "update u set rowid = null", "insert into u(rowid, b) values('z', null)")
        self.run_all("update u set rowid = '5'")
        self.assertEqual((self.table(), self.table("u")), ([(3, 3, 1), (4, 4, 1)], [(5, 1, 2)]))

    def test_the_order_of_the_constraints(self):
        self.run_all("create table t(k, a not null, b not null check (b > 0) unique, c check (c > 0), check (k <> 'no'))",
                     "insert into t(rowid, k, a, b, c) values(1, 'k', 1, 1, 1)")
        self.refuses(NOT_NULL, "insert into t(rowid, k, a, b, c) values(1, 'no', null, 0, 0)", "insert into t(rowid, a, b) values(1, 1, null)")
        self.refuses(CHECK, "insert into t(rowid, k, a, b, c) values(1, 'k', 1, 0, 1)", "insert into t(rowid, k, a, b) values(1, 'no', 1, 1)")
        self.refuses(ROWID, "insert into t(rowid, k, a, b, c) values(1, 'k', 1, 1, 1)")
        self.refuses(UNIQUE, "insert into t(rowid, k, a, b, c) values(2, 'k', 1, 1, null)")
        self.run_all("insert into t values(null, 1, 2, null)", "create table u(a integer primary key, b unique)", "insert into u values(1, 1)")
        self.refuses(PRIMARY_KEY, "insert into u values(1, 1)", "insert into u(rowid, b) values(1, 5)")

    def test_checks(self):
        self.run_all("create table t(a check (a), b check (t.b <> 'x' and rowid < 5), c)", "insert into t values(1, 'y', 1)", "insert into t values(null, null, 1)")
        self.refuses(CHECK, "insert into t values('0', 'y', 1)", "insert into t values(1, 'x', 1)", "insert into t(rowid, a) values(5, 1)",
                     "update t set rowid = 9 where a", "update t set a = '' where a")
        self.run_all("create table u(a check (a > 0), b check (9223372036854775807 + b), check (a + b))")
        self.refuses(CHECK, "insert into u values(0, 1)")
        self.refuses(ERROR, "insert into u values(1, 1)")

    def test_unique_values(self):
        self.run_all("create table t(a unique, b collate nocase unique, c, d, unique(c, d))", "insert into t values(1, 'x', 1, 2)",
                     "insert into t values('1', null, 1, null)", "insert into t values(null, null, 1, null)", "insert into t values(null, 'y', null, 2)")
        self.refuses(UNIQUE, "insert into t values(1, null, null, null)", "insert into t values(null, 'X', null, null)",
                     "insert into t values(null, null, 1, 2)", "update t set a = 1", "update t set b = 'X' where b = 'y'")
        self.run_all("create table p(a text primary key, b)", "insert into p values(1, 1), (null, 2), (null, 3)")
        self.refuses(PRIMARY_KEY, "insert into p values('1', 5)", "update p set a = 1 where b = 2")
        self.run_all("create table q(a collate rtrim, b collate nocase, primary key(a, b))", "insert into q values('a', 'b'), ('a', 'c')")
        self.refuses(PRIMARY_KEY, "insert into q values('a ', 'B')")

    def test_abort_undoes_the_statement_alone(self):
        self.run_all("create table t(a unique)", "begin", "insert into t values(1)")
        self.refuses(UNIQUE, "insert into t values(2), (1)", "insert or abort into t values(2), (1)")
        self.assertTrue(self.db.in_transaction)
        self.run_all("commit")
        self.assertEqual(self.table(), [(1, 1)])

    def test_fail_keeps_the_earlier_rows(self):
        self.run_all("create table t(a unique)", "insert into t values(1)")
        self.refuses(UNIQUE, "insert or fail into t values(2), (1), (3)")
        self.assertEqual(self.table(), [(1, 1), (2, 2)])
        self.assertEqual(len(self.library.history("db")), 3)
        self.run_all("insert into t values(4)")
        self.refuses(UNIQUE, "update or fail t set a = a + 2")
        self.assertEqual(self.table(), [(1, 3), (2, 2), (3, 4)])
        self.refuses(ERROR, "insert or fail into t values(7), (9223372036854775807 + 1)")
        self.assertEqual(len(self.table()), 3)

    def test_rollback_undoes_the_transaction(self):
        self.run_all("create table t(a unique)", "insert into t values(1)")
        self.refuses(UNIQUE, "insert or rollback into t values(2), (1)")
        self.run_all("begin", "insert into t values(3)", "savepoint s")
        self.refuses(UNIQUE, "insert or rollback into t values(4), (1)")
        self.assertEqual((self.db.in_transaction, self.db.lock), (False, 0))
        self.refuses(ERROR, "release s")
        self.run_all("begin", "insert into t values(3)")
        self.refuses(ERROR, "insert or rollback into t values(9223372036854775807 + 1)")
        self.assertTrue(self.db.in_transaction)
        self.run_all("rollback")
        self.assertEqual(self.table(), [(1, 1)])

    def test_ignore_goes_on(self):
        self.run_all("create table t(a integer primary key, b unique not null, c check (c <> 'x'))", "insert into t values(1, 1, 1)")
        found = self.db.execute("insert or ignore into t values(2, 1, 1), (3, null, 1), (4, 4, 'x'), (1, 5, 5), (6, 6, 6)")
        self.assertEqual((found.rowcount, self.table()), (1, [(1, 1, 1, 1), (6, 6, 6, 6)]))
        self.assertEqual(self.db.execute("update or ignore t set b = 6").rowcount, 1)
        self.assertEqual(self.table(), [(1, 1, 1, 1), (6, 6, 6, 6)])

    def test_replace(self):
        self.run_all("create table t(a integer primary key, b unique, c text not null default 5, d check (d <> 'x'))",
                     "insert into t values(1, 1, 'p', 0), (2, 2, 'q', 0), (3, 3, 'r', 0)")
        self.assertEqual(self.db.execute("insert or replace into t values(1, 2, null, 1)").rowcount, 1)
        self.assertEqual(self.table(), [(1, 1, 2, "5", 1), (3, 3, 3, "r", 0)])
        self.refuses(CHECK, "replace into t values(1, 9, 9, 'x')")
        self.run_all("create table u(a not null, b not null default null)")
        self.refuses(NOT_NULL, "replace into u values(null, 1)", "replace into u values(1, null)")
        self.assertEqual(self.db.execute("replace into t(a, b) values(8, 8), (8, 9), (9, 9)").rowcount, 3)
        self.assertEqual([row[:3] for row in self.table()], [(1, 1, 2), (3, 3, 3), (9, 9, 9)])

    def test_replace_of_a_rowid_alone(self):
        self.run_all("create table t(a)", "insert into t values(2), (5)", "replace into t(rowid, a) values(1, 9)")
        self.assertEqual(self.table(), [(1, 9), (2, 5)])

    def test_a_column_called_rowid(self):
        self.run_all("create table t(a, rowid text)", "insert into t(rowid, a) values(7, 1)", "update t set rowid = 8", "insert into t(ROWID) values('x')")
        self.assertEqual(self.rows("select a, rowid, t.rowid from t"), [(1, "8", "8"), (None, "x", "x")])
        self.assertEqual(self.rows("select last_insert_rowid()"), [(2,)])

    def test_replace_in_an_update(self):
        self.run_all("create table t(a integer primary key, b unique, c not null default 'd')", "insert into t values(1, 1, 1), (2, 2, 2), (3, 3, 3)")
        self.assertEqual(self.db.execute("update or replace t set b = 3, c = null where a = 1").rowcount, 1)
        self.assertEqual(self.table(), [(1, 1, 3, "d"), (2, 2, 2, 2)])
        self.run_all("insert into t values(3, 9, 9)")
        self.run_all("create table u(a not null default 'z')", "insert into u values(1)", "update or replace u set a = null")
        self.assertEqual(self.table("u"), [(1, "z")])
        # Row 1 takes the place of row 2; what is row 2 by then takes that of row 3, and this one becomes row 4.
        self.assertEqual(self.db.execute("update or replace t set a = a + 1").rowcount, 3)
        self.assertEqual(self.table(), [(4, 4, 3, "d")])

    def test_replace_deletes_a_row_that_was_to_be_updated(self):
        self.run_all("create table t(a, b unique)", "insert into t(rowid, a, b) values(5, 1, 1), (6, 2, 2), (7, 3, 3)")
        self.assertEqual(self.db.execute("update or replace t set b = 4 - b").rowcount, 2)
        self.assertEqual(self.table(), [(5, 1, 3), (6, 2, 2)])
        self.run_all("insert or replace into t values(9, 3)")
        self.assertEqual(self.table(), [(6, 2, 2), (7, 9, 3)])

    def test_update(self):
        self.run_all("create table t(a, b)", "insert into t values(1, 2), (3, 4), (5, 6)")
        self.assertEqual(self.db.execute("update t set a = b, b = a where a > 1").rowcount, 2)
        self.assertEqual(self.table(), [(1, 1, 2), (2, 4, 3), (3, 6, 5)])
        self.run_all("update t set a = 0, a = 9 where rowid = 1", "update t set rowid = 7, rowid = 8 where t.rowid = 2")
        self.assertEqual(self.table(), [(1, 9, 2), (3, 6, 5), (8, 4, 3)])
        self.refuses(ROWID, "update t set rowid = 3 where rowid = 1")
        self.assertEqual(self.db.execute("update t set a = a").rowcount, 3)
        self.assertEqual(self.db.execute("update t set a = 1 where null").rowcount, 0)

    def test_update_of_rowids_in_order(self):
        self.run_all("create table t(a integer primary key)", "insert into t values(1), (2), (3)")
        self.refuses(PRIMARY_KEY, "update t set a = a + 1")
        self.run_all("update t set a = a - 1")
        self.assertEqual([row[0] for row in self.table()], [0, 1, 2])
        self.run_all("update t set a = 10 - a where a = 0", "update or ignore t set a = a + 9")
        self.assertEqual([row[0] for row in self.table()], [1, 11, 19])

    def test_delete(self):
        self.run_all("create table t(a)", "insert into t values(1), (2), (null)")
        self.assertEqual(self.db.execute("delete from t where a > 1").rowcount, 1)
        self.assertEqual(self.db.execute("delete from t where a = null").rowcount, 0)
        self.assertEqual(self.db.execute("delete from t").rowcount, 2)
        self.assertEqual(self.table(), [])

    def test_drop_table(self):
        self.run_all("create table t(a)", "insert into t values(1)", "drop table T", "create table t(b)")
        self.assertEqual(self.table(), [])

    def test_unusual_ends_of_statements(self):
        self.refused(PROGRAMMING, self.db.execute, "create table t(a); create table u(a)")
        self.refuses(ERROR, "select 1 from t")


if __name__ == "__main__":
    unittest.main()
