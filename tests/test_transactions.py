import unittest

from support import BUSY, ERROR, LOCKED, UNIQUE, DatabaseTest

NO_LOCK, SHARED, RESERVED, PENDING, EXCLUSIVE = range(5)


class CountsTest(DatabaseTest):
    """Point 32."""

    def setUp(self):
        super().setUp()
        self.run_all("create table t(a unique, b)")

    def counts(self):
        return self.rows("select changes(), total_changes(), last_insert_rowid()")[0]

    def test_at_first(self):
        self.assertEqual(self.counts(), (0, 0, 0))
        self.assertEqual(self.db.total_changes, 0)

    def test_each_kind_of_change(self):
        self.run_all("insert into t values(1, 1), (2, 2), (3, 3)")
        self.assertEqual(self.counts(), (3, 3, 3))
        self.run_all("update t set b = b where a < 3")
        self.assertEqual(self.counts(), (2, 5, 3))
        self.run_all("delete from t where a = 9")
        self.assertEqual(self.counts(), (0, 5, 3))
        self.run_all("delete from t")
        self.assertEqual(self.counts(), (3, 8, 3))
        self.run_all("create table u(a)", "select 1", "begin", "commit", "drop table u")
        self.assertEqual(self.counts(), (3, 8, 3))
        self.assertEqual(self.db.total_changes, 8)

    def test_ignored_and_replaced_rows(self):
        self.run_all("insert into t values(1, 1), (2, 2)", "insert or ignore into t values(1, 9), (5, 5)")
        self.assertEqual(self.counts(), (1, 3, 3))
        self.run_all("replace into t values(1, 7), (1, 8)")
        self.assertEqual(self.counts(), (2, 5, 5))

    def test_what_was_undone(self):
        self.run_all("insert into t values(1, 1)")
        self.refuses(UNIQUE, "insert into t values(2, 2), (1, 1)")
        self.assertEqual(self.counts(), (0, 1, 2))
        self.refuses(UNIQUE, "insert or fail into t values(3, 3), (4, 4), (1, 1)")
        self.assertEqual(self.counts(), (2, 3, 3))
        self.run_all("begin", "insert into t(rowid, a) values(50, 50)", "rollback")
        self.assertEqual(self.counts(), (1, 4, 50))
        self.refuses(ERROR, "insert into t select 1, 2 limit 9223372036854775807 + 1")
        self.assertEqual(self.counts(), (0, 4, 50))

    def test_what_was_refused_before_it_was_executed(self):
        self.run_all("insert into t values(1, 1), (2, 2)")
        other = self.connect()
        other.execute("begin immediate")
        self.refuses(BUSY, "insert into t values(3, 3)")
        self.refuses(ERROR, "insert into t values(3)")
        self.assertEqual(self.counts(), (2, 2, 2))
        other.execute("rollback")
        cursor = other.execute("select * from t")
        self.refuses(BUSY, "insert into t values(3, 3)")
        self.assertEqual(self.counts(), (0, 2, 3))
        cursor.close()

    def test_within_a_statement(self):
        self.run_all("insert into t values(1, 1), (2, 2)", "insert into t values(3, changes()), (4, total_changes()), (5, last_insert_rowid())",
                     "update t set b = changes() where a = 1")
        self.assertEqual(self.rows("select b from t"), [(3,), (2,), (2,), (2,), (4,)])

    def test_each_connection_counts_for_itself(self):
        other = self.connect()
        self.run_all("insert into t values(1, 1)")
        self.assertEqual(other.execute("select changes(), total_changes(), last_insert_rowid()").fetchall(), [(0, 0, 0)])


class TransactionsTest(DatabaseTest):
    """Points 33 to 35."""

    def setUp(self):
        super().setUp()
        self.run_all("create table t(a unique)", "insert into t values(1)")

    def values(self):
        return [row[0] for row in self.rows("select a from t")]

    def test_begin_commit_and_rollback(self):
        self.refuses(ERROR, "commit", "rollback", "end")
        self.run_all("begin")
        self.assertTrue(self.db.in_transaction)
        self.refuses(ERROR, "begin", "begin immediate", "begin exclusive")
        self.run_all("insert into t values(2)", "commit")
        self.assertFalse(self.db.in_transaction)
        self.run_all("begin", "insert into t values(3)", "create table u(x)", "drop table t", "rollback")
        self.assertEqual(self.values(), [1, 2])
        self.refuses(ERROR, "select 1 from u")
        self.run_all("begin", "delete from t", "end transaction")
        self.assertEqual(self.values(), [])

    def test_others_see_what_is_committed(self):
        other = self.connect()
        self.run_all("begin", "insert into t values(2)", "create table u(x)")
        self.assertEqual(other.execute("select a from t").fetchall(), [(1,)])
        self.refused(ERROR, other.execute, "select * from u")
        self.run_all("commit")
        self.assertEqual(other.execute("select a from t, u").fetchall(), [])
        self.assertEqual(other.execute("select a from t").fetchall(), [(1,), (2,)])

    def test_savepoints(self):
        self.run_all("begin", "savepoint a", "insert into t values(2)", "savepoint b", "insert into t values(3)", "savepoint A",
                     "insert into t values(4)", "rollback to a")
        self.assertEqual(self.values(), [1, 2, 3])
        self.run_all("rollback to a", "release a", "rollback to b")
        self.assertEqual(self.values(), [1, 2])
        self.run_all("rollback to a", "insert into t values(9)", "release a", "commit")
        self.assertEqual(self.values(), [1, 9])
        self.refuses(ERROR, "release a", "rollback to a")

    def test_release_removes_later_savepoints(self):
        self.run_all("begin", "savepoint a", "savepoint b", "savepoint c", "release b")
        self.refuses(ERROR, "rollback to c", "release b")
        self.run_all("release a", "rollback")
        self.run_all("begin", "savepoint a", "savepoint b", "rollback to a")
        self.refuses(ERROR, "release b", "rollback to b")
        self.run_all("rollback to a", "rollback")

    def test_a_savepoint_opens_a_transaction(self):
        self.run_all("savepoint a")
        self.assertEqual((self.db.in_transaction, self.db.lock), (True, NO_LOCK))
        self.refuses(ERROR, "begin")
        self.run_all("insert into t values(2)", "savepoint a", "insert into t values(3)", "release a")
        self.assertTrue(self.db.in_transaction)
        self.run_all("release a")
        self.assertEqual((self.db.in_transaction, self.values()), (False, [1, 2, 3]))
        self.run_all("savepoint a", "delete from t", "rollback to a")
        self.assertTrue(self.db.in_transaction)
        self.run_all("release a", "savepoint b", "delete from t", "rollback")
        self.assertEqual((self.db.in_transaction, self.values()), (False, [1, 2, 3]))

    def test_release_within_a_begun_transaction_is_no_commit(self):
        self.run_all("savepoint x", "release x", "begin", "savepoint a", "insert into t values(2)", "release a")
        self.assertTrue(self.db.in_transaction)
        self.run_all("rollback")
        self.assertEqual(self.values(), [1])

    def test_a_refused_release_keeps_all_savepoints(self):
        other = self.connect()
        cursor = other.execute("select a from t")
        self.run_all("savepoint a", "savepoint b", "insert into t values(2)")
        self.refuses(BUSY, "release a")
        self.assertEqual((self.db.in_transaction, self.db.lock), (True, PENDING))
        self.run_all("rollback to b", "insert into t values(3)")
        cursor.fetchall()
        self.run_all("release a")
        self.assertEqual(self.values(), [1, 3])

    def test_rollback_to_undoes_tables_and_keeps_the_locks(self):
        self.run_all("savepoint a", "create table u(x)", "rollback to a")
        self.assertEqual((self.db.in_transaction, self.db.lock), (True, RESERVED))
        self.refuses(ERROR, "select * from u")
        self.run_all("release a")
        self.assertEqual(self.db.lock, NO_LOCK)

    def test_a_statement_of_its_own(self):
        self.run_all("insert into t values(2)")
        self.refuses(UNIQUE, "insert into t values(3), (2)")
        self.assertEqual((self.db.in_transaction, self.db.lock, self.values()), (False, NO_LOCK, [1, 2]))

    def test_cursors_that_read_go_on(self):
        for end in ("commit", "rollback"):
            self.run_all("begin", "insert into t values(7)")
            cursor = self.db.execute("select a from t")
            self.assertEqual(cursor.fetchone(), (1,))
            self.run_all(end)
            self.assertEqual(self.db.lock, SHARED)
            self.assertEqual(cursor.fetchall(), [(7,)])
            self.assertEqual(self.db.lock, NO_LOCK)
            self.run_all("delete from t where a = 7")


class LocksTest(DatabaseTest):
    """Points 36 to 40."""

    def setUp(self):
        super().setUp()
        self.run_all("create table t(a)", "insert into t values(1), (2)")
        self.other = self.connect()
        self.third = self.connect()

    def locks(self):
        return [self.db.lock, self.other.lock, self.third.lock]

    def test_begin_and_savepoint_take_no_lock(self):
        for text in ("begin", "begin deferred", "savepoint a"):
            self.run_all(text)
            self.assertEqual(self.db.lock, NO_LOCK)
            self.run_all("select 1")
            self.assertEqual(self.db.lock, NO_LOCK)
            self.run_all("rollback")

    def test_reading_takes_shared(self):
        cursor = self.db.execute("select * from t")
        self.assertEqual(self.db.lock, SHARED)
        cursor.fetchone()
        self.assertEqual(self.db.lock, SHARED)
        cursor.fetchone()
        self.assertEqual(self.db.lock, NO_LOCK)
        self.run_all("select * from t where 0")
        self.assertEqual(self.db.lock, NO_LOCK)
        self.run_all("begin", "select * from t where 0")
        self.assertEqual(self.db.lock, SHARED)
        self.run_all("commit")
        self.assertEqual(self.db.lock, NO_LOCK)

    def test_a_select_without_a_source_takes_nothing(self):
        self.other.execute("begin exclusive")
        cursor = self.db.execute("select 1")
        self.assertEqual((self.db.lock, cursor.fetchall()), (NO_LOCK, [(1,)]))
        self.refuses(BUSY, "select 1 from t", "insert into t values(1)", "begin immediate", "create table u(a)", "drop table t")
        self.run_all("begin", "rollback", "create table if not exists t(a)", "drop table if exists nosuch")

    def test_writing_takes_reserved(self):
        for text in ("insert into t values(3)", "update t set a = 1 where 0", "delete from t where 0", "create table u(a)", "drop table u"):
            self.run_all("begin", text)
            self.assertEqual(self.db.lock, RESERVED)
            self.assertEqual(self.other.execute("select count(*) from t").fetchall(), [(2,)])
            self.refused(BUSY, self.other.execute, "insert into t values(9)")
            self.refused(BUSY, self.other.execute, "begin immediate")
            self.assertEqual(self.locks(), [RESERVED, NO_LOCK, NO_LOCK])
            self.run_all("rollback" if text != "create table u(a)" else "commit")
            self.assertEqual(self.db.lock, NO_LOCK)

    def test_a_shared_lock_taken_in_vain_is_given_back(self):
        self.run_all("begin immediate")
        self.other.execute("begin")
        self.refused(BUSY, self.other.execute, "insert into t values(1)")
        self.assertEqual(self.locks(), [RESERVED, NO_LOCK, NO_LOCK])
        self.other.execute("select count(*) from t")
        self.refused(BUSY, self.other.execute, "insert into t values(1)")
        self.assertEqual(self.locks(), [RESERVED, SHARED, NO_LOCK])

    def test_begin_immediate_and_exclusive(self):
        self.run_all("begin immediate")
        self.assertEqual(self.db.lock, RESERVED)
        self.refused(BUSY, self.other.execute, "begin immediate")
        self.refused(BUSY, self.other.execute, "begin exclusive")
        self.assertEqual((self.locks(), self.other.in_transaction), ([RESERVED, NO_LOCK, NO_LOCK], False))
        self.run_all("commit", "begin exclusive")
        self.assertEqual(self.db.lock, EXCLUSIVE)
        self.refused(BUSY, self.other.execute, "select * from t")
        self.run_all("insert into t values(3)")
        self.assertEqual(self.db.lock, EXCLUSIVE)
        self.run_all("commit")

    def test_begin_exclusive_beside_a_reader(self):
        cursor = self.other.execute("select * from t")
        self.refuses(BUSY, "begin exclusive")
        self.assertEqual((self.locks(), self.db.in_transaction), ([NO_LOCK, SHARED, NO_LOCK], False))
        own = self.db.execute("select * from t")
        self.refuses(BUSY, "begin exclusive")
        self.assertEqual(self.locks(), [SHARED, SHARED, NO_LOCK])
        cursor.close()
        self.run_all("begin exclusive")
        own.close()
        self.assertEqual(self.db.lock, EXCLUSIVE)

    def test_a_refused_commit_can_be_tried_again(self):
        cursor = self.other.execute("select * from t")
        self.run_all("begin", "insert into t values(3)")
        self.refuses(BUSY, "commit")
        self.assertEqual((self.locks(), self.db.in_transaction), ([PENDING, SHARED, NO_LOCK], True))
        self.refused(BUSY, self.third.execute, "select * from t")
        self.run_all("insert into t values(4)")
        self.assertEqual(self.db.lock, PENDING)
        self.run_all("select * from t")
        self.refuses(BUSY, "commit")
        cursor.fetchall()
        self.run_all("commit")
        self.assertEqual(self.locks(), [SHARED, NO_LOCK, NO_LOCK])
        self.assertEqual(self.rows("select count(*) from t"), [(4,)])

    def test_a_transaction_that_changed_nothing_needs_exclusive_too(self):
        self.other.execute("select * from t")
        self.run_all("begin immediate")
        self.refuses(BUSY, "commit")
        self.run_all("rollback", "begin", "select * from t")
        self.run_all("commit")

    def test_a_statement_of_its_own_whose_commit_is_refused(self):
        cursor = self.other.execute("select * from t")
        self.run_all("create table if not exists t(a)")
        self.refuses(BUSY, "insert into t values(3)", "delete from t", "create table u(a)", "drop table t")
        self.assertEqual(self.locks(), [NO_LOCK, SHARED, NO_LOCK])
        own = self.db.execute("select * from t")
        self.refuses(BUSY, "insert into t values(3)")
        self.assertEqual(self.locks(), [SHARED, SHARED, NO_LOCK])
        cursor.close()
        self.run_all("insert into t values(3)")
        self.assertEqual((self.db.lock, own.fetchall()), (SHARED, [(1,), (2,)]))

    def test_busy_goes_ahead_of_fail(self):
        self.run_all("create table k(a unique)", "insert into k values(1)")
        cursor = self.other.execute("select * from t")
        self.refuses(BUSY, "insert or fail into k values(2), (1)")
        self.assertEqual(self.rows("select * from k"), [(1,)])
        cursor.close()
        self.refuses(UNIQUE, "insert or fail into k values(2), (1)")
        self.assertEqual(self.rows("select * from k"), [(1,), (2,)])

    def test_locks_of_a_transaction_stay_to_its_end(self):
        cursor = self.db.execute("select * from t")
        self.run_all("begin")
        cursor.fetchall()
        self.assertEqual(self.db.lock, SHARED)
        self.refuses(ERROR, "insert into t values(9223372036854775807 + 1)")
        self.assertEqual(self.db.lock, RESERVED)
        self.run_all("rollback")
        self.assertEqual(self.db.lock, NO_LOCK)

    def test_drop_table_beside_a_reader_of_the_connection(self):
        self.run_all("create table u(a)")
        cursor = self.db.execute("select * from t")
        self.refuses(LOCKED, "drop table u", "drop table if exists u")
        self.run_all("drop table if exists nosuch")
        self.assertEqual(self.db.lock, SHARED)
        self.run_all("begin")
        self.refuses(LOCKED, "drop table u")
        self.assertEqual(self.db.lock, RESERVED)
        self.refused(BUSY, self.other.execute, "drop table u")
        cursor.close()
        self.run_all("drop table u", "commit")
        reader = self.db.execute("select * from t")
        reader.execute("drop table t")

    def test_a_cursor_reads_until_its_last_row(self):
        for end in ("fetchall", "fetchmany", "close", "execute", "executemany"):
            cursor = self.db.execute("select * from t")
            self.assertEqual(self.db.lock, SHARED)
            if end == "fetchmany":
                cursor.fetchmany(2)
            elif end == "execute":
                cursor.execute("")
            elif end == "executemany":
                cursor.executemany("delete from t where a = ?", [])
            else:
                getattr(cursor, end)()
            self.assertEqual(self.db.lock, NO_LOCK, end)
        self.db.execute("select * from t").fetchmany(1)
        self.assertEqual(self.db.lock, SHARED)

    def test_a_cursor_that_nobody_keeps_reads_on(self):
        self.db.execute("select * from t")
        self.refused(BUSY, self.other.execute, "insert into t values(5)")

    def test_who_holds_shared_can_read_beside_pending(self):
        cursor = self.db.execute("select * from t")
        self.other.execute("begin")
        self.other.execute("delete from t")
        self.refused(BUSY, self.other.execute, "commit")
        self.assertEqual(self.rows("select count(*) from t"), [(2,)])
        cursor.close()
        self.refuses(BUSY, "select count(*) from t")

    def test_a_cursor_stops_reading_once(self):
        ended = self.db.execute("select * from t")
        ended.fetchall()
        ended.close()
        self.db.execute("select 1").fetchall()
        self.run_all("begin")
        self.db.execute("select * from t")
        self.run_all("commit")
        self.assertEqual(self.db.lock, SHARED)

    def test_a_select_without_rows_does_not_read(self):
        for end in ("close", "fetchall"):
            empty = self.db.execute("select * from t where 0")
            cursor = self.db.execute("select * from t")
            getattr(empty, end)()
            self.assertEqual(self.db.lock, SHARED)
            self.run_all("begin", "commit")
            self.assertEqual(self.db.lock, SHARED)
            cursor.close()
            self.assertEqual(self.db.lock, NO_LOCK)

    def test_two_cursors_keep_one_lock(self):
        one, two = self.db.execute("select * from t"), self.db.execute("select * from t")
        one.close()
        self.assertEqual(self.db.lock, SHARED)
        two.close()
        self.assertEqual(self.db.lock, NO_LOCK)

    def test_private_databases(self):
        one, two = self.library.connect(":memory:"), self.library.connect(":memory:")
        one.execute("create table t(a)")
        one.execute("begin exclusive")
        self.refused(ERROR, two.execute, "select * from t")
        two.execute("begin exclusive")
        self.assertEqual(one.lock, EXCLUSIVE)

    def test_databases_of_other_names(self):
        elsewhere = self.library.connect("DB", isolation_level=None)
        self.refused(ERROR, elsewhere.execute, "select * from t")
        elsewhere.execute("begin exclusive")
        self.run_all("begin exclusive")

    def test_a_transaction_sees_the_state_at_its_first_lock(self):
        self.run_all("begin")
        self.other.execute("insert into t values(3)")
        self.assertEqual(self.rows("select count(*) from t"), [(3,)])
        self.refused(BUSY, self.other.execute, "insert into t values(4)")
        self.assertEqual(self.rows("select count(*) from t"), [(3,)])
        self.run_all("commit")


if __name__ == "__main__":
    unittest.main()
