import unittest

from cursorhouse import library
from cursorhouse.connections import Connection
from cursorhouse.cursors import Cursor
from cursorhouse.library import Library, replay
from support import BUSY, ERROR, PROGRAMMING, UNIQUE, DatabaseTest


class ConnectTest(DatabaseTest):
    """Points 41 and 42."""

    def test_constants(self):
        self.assertEqual((library.PARSE_DECLTYPES, library.PARSE_COLNAMES, library.LEGACY_TRANSACTION_CONTROL), (1, 2, -1))

    def test_connect(self):
        db = Library().connect(database="x")
        self.assertIsInstance(db, Connection)
        self.assertEqual((db.isolation_level, db.autocommit, db.in_transaction, db.total_changes, db.lock, db.row_factory),
                         ("", -1, False, 0, 0, None))
        self.assertRaises(TypeError, Library().connect, "x", None)
        self.assertEqual(db.iterdump(), ["BEGIN TRANSACTION;", "COMMIT;"])

    def test_connect_with_autocommit(self):
        self.assertTrue(self.library.connect("x", autocommit=False).in_transaction)
        self.assertFalse(self.library.connect("x", autocommit=True).in_transaction)

    def test_what_connect_refuses(self):
        for level in ("x", "BEGIN", " ", 0, False, ["DEFERRED"], "DEFERRED ", ()):
            self.refused(PROGRAMMING, self.library.connect, "x", isolation_level=level)
        for mode in (0, 1, 2, -2, None, "", "True", [True], -1.0):
            self.refused(PROGRAMMING, self.library.connect, "x", autocommit=mode)

    def test_libraries_share_nothing(self):
        self.run_all("create table t(a)")
        self.refused(ERROR, Library().connect("db").execute, "select * from t")

    def test_a_closed_connection(self):
        self.run_all("create table t(a)", "begin", "insert into t values(1)")
        cursor, closed = self.db.cursor(), self.db.cursor()
        closed.close()
        self.db.close()
        self.db.close()
        other = self.connect()
        self.assertEqual(other.execute("select * from t").fetchall(), [])
        other.execute("begin exclusive")
        for name in ("isolation_level", "autocommit", "in_transaction", "total_changes", "lock"):
            self.refused(PROGRAMMING, getattr, self.db, name)
        for call in (lambda: self.db.set_isolation_level(None), lambda: self.db.set_isolation_level(""), lambda: self.db.set_autocommit(True),
                     lambda: self.db.set_row_factory(None), self.db.cursor, lambda: self.db.execute("select 1"), lambda: self.db.executemany("delete from t", []),
                     lambda: self.db.executescript(""), self.db.commit, self.db.rollback, self.db.enter, lambda: self.db.leave(True),
                     self.db.iterdump, lambda: self.db.create_function("f", 0, None), lambda: self.db.create_aggregate("f", 99, None),
                     lambda: self.db.create_collation("k", None)):
            self.refused(PROGRAMMING, call)
        for one in (cursor, closed):
            for call in (lambda: one.execute("select 1"), lambda: one.executemany("x", []), lambda: one.executescript(""), one.fetchone, one.fetchmany,
                         one.fetchall, one.close, lambda: one.set_arraysize(1), lambda: one.set_row_factory(None)):
                self.refused(PROGRAMMING, call)
            self.assertEqual((one.connection, one.description, one.rowcount, one.lastrowid, one.arraysize, one.row_factory),
                             (self.db, None, -1, None, 1, None))
        self.assertIsNone(self.db.row_factory)

    def test_a_closed_connection_in_other_modes(self):
        for mode in (True, False):
            db = self.connect("", autocommit=mode)
            db.close()
            self.refused(PROGRAMMING, db.leave, False)
            self.refused(PROGRAMMING, db.leave, True)
            self.refused(PROGRAMMING, db.set_autocommit, -1)

    def test_a_closed_connection_gives_its_locks_back(self):
        self.run_all("create table t(a)", "insert into t values(1)")
        other = self.connect()
        other.execute("select * from t")
        self.refuses(BUSY, "insert into t values(2)")
        other.close()
        self.run_all("insert into t values(2)")


class SettingsTest(DatabaseTest):
    """Points 43 to 46 and 48."""

    def setUp(self):
        super().setUp()
        self.run_all("create table t(a unique)")
        self.other = self.connect()

    def test_isolation_levels(self):
        for given, kept in ((None, None), ("", ""), ("deferred", "DEFERRED"), ("Immediate", "IMMEDIATE"), ("EXCLUSIVE", "EXCLUSIVE")):
            self.db.set_isolation_level(given)
            self.assertEqual(self.db.isolation_level, kept)
            self.assertEqual(self.library.connect("db", isolation_level=given).isolation_level, kept)
        for level in ("none", 1, True, b"", ["x"], "im mediate"):
            self.refused(PROGRAMMING, self.db.set_isolation_level, level)
        self.assertEqual(self.db.isolation_level, "EXCLUSIVE")
        self.assertRaises(AttributeError, setattr, self.db, "isolation_level", None)

    def test_the_begin_ahead_of_a_change(self):
        for level, lock in (("", 0), ("DEFERRED", 0), ("IMMEDIATE", 2), ("EXCLUSIVE", 4)):
            self.db.set_isolation_level(level)
            self.refused(PROGRAMMING, self.db.execute, "insert into t values(?)")
            self.assertEqual((self.db.in_transaction, self.db.lock), (True, lock))
            self.db.rollback()
            for text in ("insert into t values(1)", "replace into t values(1)", "update t set a = a", "delete from t where 0"):
                self.db.execute(text)
                self.assertTrue(self.db.in_transaction)
                self.db.rollback()
            for text in ("create table u(a)", "drop table u", "select * from t", "savepoint a", "release a", "begin", "rollback"):
                self.db.execute(text)
                self.assertEqual(self.db.in_transaction, text in ("savepoint a", "begin"))

    def test_a_refused_begin_ahead_of_a_change(self):
        self.db.set_isolation_level("IMMEDIATE")
        self.other.execute("begin immediate")
        self.refused(BUSY, self.db.execute, "insert into t values(?)", ("x", "y"))
        self.assertFalse(self.db.in_transaction)
        self.db.set_isolation_level("")
        self.refused(PROGRAMMING, self.db.execute, "insert into t values(?)", ("x", "y"))
        self.assertTrue(self.db.in_transaction)
        self.refused(BUSY, self.db.execute, "insert into t values(1)")
        self.assertEqual((self.db.in_transaction, self.db.lock), (True, 0))

    def test_set_isolation_level_none_commits(self):
        self.db.set_isolation_level("")
        self.db.execute("insert into t values(1)")
        self.db.set_isolation_level("IMMEDIATE")
        self.assertTrue(self.db.in_transaction)
        self.db.set_isolation_level(None)
        self.assertFalse(self.db.in_transaction)
        self.run_all("begin", "insert into t values(2)")
        reader = self.other.execute("select * from t")
        self.db.set_isolation_level("")
        self.refused(BUSY, self.db.set_isolation_level, None)
        self.assertEqual((self.db.isolation_level, self.db.in_transaction), (None, True))
        reader.close()
        self.db.set_isolation_level(None)
        self.assertFalse(self.db.in_transaction)

    def test_set_autocommit(self):
        self.run_all("begin", "insert into t values(1)")
        reader = self.connect()
        self.db.set_autocommit(-1)
        self.assertTrue(self.db.in_transaction)
        self.db.set_autocommit(False)
        self.assertTrue(self.db.in_transaction)
        self.db.set_autocommit(True)
        self.assertEqual((self.db.autocommit, self.db.in_transaction), (True, False))
        self.db.set_autocommit(False)
        self.assertEqual((self.db.autocommit, self.db.in_transaction, self.db.lock), (False, True, 0))
        cursor = reader.execute("select * from t")
        self.run_all("insert into t values(2)")
        self.refused(BUSY, self.db.set_autocommit, True)
        self.assertEqual((self.db.autocommit, self.db.in_transaction, self.db.lock), (True, True, 3))
        cursor.close()
        self.db.set_autocommit(True)
        self.assertEqual(self.rows("select a from t"), [(1,), (2,)])
        for mode in (0, 1, None, "", -2, [False]):
            self.refused(PROGRAMMING, self.db.set_autocommit, mode)
        self.assertIs(self.db.autocommit, True)
        self.db.set_autocommit(library.LEGACY_TRANSACTION_CONTROL)
        self.assertEqual((self.db.autocommit, self.db.in_transaction), (-1, False))

    def test_commit_and_rollback_in_legacy_mode(self):
        self.db.commit()
        self.db.rollback()
        self.run_all("begin", "insert into t values(1)")
        self.db.commit()
        self.run_all("begin", "insert into t values(2)")
        self.db.rollback()
        self.assertEqual((self.db.in_transaction, self.rows("select a from t")), (False, [(1,)]))

    def test_commit_and_rollback_without_autocommit(self):
        self.db.set_autocommit(False)
        self.run_all("insert into t values(1)")
        self.db.commit()
        self.assertEqual((self.db.in_transaction, self.db.lock), (True, 0))
        self.run_all("insert into t values(2)")
        self.db.rollback()
        self.assertTrue(self.db.in_transaction)
        self.run_all("commit")
        self.refused(ERROR, self.db.commit)
        self.refused(ERROR, self.db.rollback)
        self.assertFalse(self.db.in_transaction)
        self.run_all("insert into t values(3)")
        self.assertFalse(self.db.in_transaction)
        self.run_all("begin")
        self.refuses(UNIQUE, "insert or rollback into t values(3)")
        self.refused(ERROR, self.db.set_isolation_level, None)
        self.assertEqual(self.rows("select a from t"), [(1,), (3,)])

    def test_commit_and_rollback_with_autocommit(self):
        self.db.set_autocommit(True)
        self.db.commit()
        self.run_all("begin", "insert into t values(1)")
        self.db.commit()
        self.db.rollback()
        self.assertTrue(self.db.in_transaction)
        self.db.set_isolation_level(None)
        self.assertTrue(self.db.in_transaction)
        self.run_all("rollback")

    def test_no_begin_ahead_of_a_change_but_in_legacy_mode(self):
        for mode in (True, False):
            db = self.connect("IMMEDIATE", autocommit=mode)
            db.execute("insert into t values(?)", (str(mode),))
            self.assertEqual((db.in_transaction, db.lock), (not mode, 0 if mode else 2))
            db.close()

    def test_leave(self):
        self.db.set_isolation_level("")
        self.assertIs(self.db.enter(), self.db)
        self.db.execute("insert into t values(1)")
        self.assertIs(self.db.leave(False), False)
        self.db.execute("insert into t values(2)")
        self.assertIs(self.db.leave(True), False)
        self.assertEqual((self.db.in_transaction, self.rows("select a from t")), (False, [(1,)]))
        self.db.leave(True)
        self.db.leave(False)

    def test_leave_with_a_refused_commit(self):
        self.run_all("insert into t values(1)", "begin", "insert into t values(2)")
        reader = self.other.execute("select * from t")
        self.refused(BUSY, self.db.leave, False)
        self.assertEqual((self.db.in_transaction, self.db.lock), (False, 0))
        self.db.set_autocommit(False)
        self.run_all("insert into t values(2)")
        self.refused(BUSY, self.db.leave, False)
        self.assertEqual((self.db.in_transaction, self.db.lock), (True, 0))
        self.run_all("rollback")
        self.refused(ERROR, self.db.leave, False)
        self.refused(ERROR, self.db.leave, True)
        reader.close()
        self.db.set_autocommit(True)
        self.run_all("begin", "insert into t values(2)")
        self.assertIs(self.db.leave(True), False)
        self.assertTrue(self.db.in_transaction)

    def test_the_row_factory_is_given_to_later_cursors(self):
        before = self.db.cursor()
        self.db.set_row_factory("Row")
        self.assertEqual((before.row_factory, self.db.row_factory, self.db.cursor().row_factory), (None, "Row", "Row"))
        self.assertEqual(self.db.execute("select 1 as a").fetchone().keys(), ["a"])

    def test_the_methods_that_make_a_cursor(self):
        for cursor in (self.db.cursor(), self.db.execute("insert into t values(?)", (1,)), self.db.executemany("insert into t values(?)", [(2,), (3,)]),
                       self.db.executescript("insert into t values(4); select 1"), self.db.execute(sql="select :a", parameters={"a": 1})):
            self.assertIsInstance(cursor, Cursor)
            self.assertIs(cursor.connection, self.db)
        self.assertEqual(self.db.total_changes, 4)


class DumpTest(DatabaseTest):
    """The rest of point 49."""

    def test_the_lines(self):
        self.run_all('create  table if not exists "b b" ( x integer primary key , y ) ;-- end', "create table B(a text, c)", "create table a(q)",
                     "insert into \"B B\" values(5, 'it''s'), (2, null)", "insert into b values(1, -1)")
        self.assertEqual(self.db.iterdump(), [
            "BEGIN TRANSACTION;", "CREATE TABLE B(a text, c);", "INSERT INTO \"B\" VALUES('1',-1);", "CREATE TABLE a(q);",
            'CREATE TABLE "b b" ( x integer primary key , y );', 'INSERT INTO "b b" VALUES(2,NULL);', "INSERT INTO \"b b\" VALUES(5,'it''s');", "COMMIT;"])
        copy = self.library.connect("copy", isolation_level=None)
        copy.executescript("\n".join(self.db.iterdump()))
        self.assertEqual(copy.iterdump(), self.db.iterdump())

    def test_it_reads(self):
        self.run_all("create table t(a)")
        other = self.connect()
        other.execute("begin exclusive")
        self.refused(BUSY, self.db.iterdump)
        other.execute("rollback")
        self.db.iterdump()
        self.assertEqual(self.db.lock, 0)
        self.run_all("begin")
        self.db.iterdump()
        self.assertEqual(self.db.lock, 1)
        self.run_all("insert into t values(1)")
        self.assertEqual(len(self.db.iterdump()), 4)
        self.assertEqual(len(other.iterdump()), 3)


class HistoryTest(DatabaseTest):
    """Point 50."""

    def test_the_transactions_and_their_pairs(self):
        self.run_all(" create table t(a unique) ; -- end", "create table if not exists t(a)", "drop table if exists u", "begin", "commit", "select 1")
        self.run_all("begin", "insert into t values(1)", "savepoint s", "insert into t values(2)", "rollback to s", "update t set a = 5", "commit",
                     "begin", "delete from t", "rollback")
        self.refuses(UNIQUE, "insert into t values(5)")
        self.refuses(UNIQUE, "insert or fail into t values(6), (5)")
        self.db.executemany("insert into t values(:x)", [{"x": True}, {"x": "y"}])
        self.assertEqual(self.library.history("db"), [
            (("create table t(a unique)", ()),), (("insert into t values(1)", ()), ("update t set a = 5", ())),
            (("insert or fail into t values(6), (5)", ()),), (("insert into t values(:x)", (1,)),), (("insert into t values(:x)", ("y",)),)])

    def test_transactions_one_after_another(self):
        self.run_all("begin", "create table t(a)", "commit", "begin", "insert into t values(1)", "commit", "savepoint s", "insert into t values(2)", "release s")
        self.assertEqual([len(pairs) for pairs in self.library.history("db")], [1, 1, 1])

    def test_other_names(self):
        self.assertEqual(self.library.history("nosuch"), [])
        self.library.connect(":memory:", isolation_level=None).execute("create table t(a)")
        self.assertEqual(self.library.history(":memory:"), [])
        self.library.history("db").append(1)
        self.assertEqual(self.library.history("db"), [])

    def test_replay(self):
        self.run_all("create table t(a integer primary key autoincrement, b unique)", "insert into t(b) values(1), (2)")
        self.refuses(UNIQUE, "insert or fail into t(b) values(3), (1)")
        self.db.execute("insert into t(b) values(@q || :q)", {"q": "z"})
        self.run_all("begin", "delete from t where a = 1", "replace into t(b) values(2)", "create table u(x)", "commit")
        self.db.executescript("insert into u values(?)")
        history = self.library.history("db")
        for given in (history, tuple(history), [[list(pair) for pair in pairs] for pairs in history]):
            copy = replay(given)
            self.assertEqual(copy.iterdump(), self.db.iterdump())
            self.assertEqual((copy.isolation_level, copy.autocommit, copy.in_transaction, copy.lock), (None, -1, False, 0))
        self.assertEqual(replay(history=[]).iterdump(), ["BEGIN TRANSACTION;", "COMMIT;"])

    def test_commits_of_several_connections(self):
        other = self.connect("")
        self.run_all("create table t(a)")
        other.execute("insert into t values(1)")
        self.refuses(BUSY, "insert into t values(2)")
        other.commit()
        self.run_all("insert into t values(3)")
        self.assertEqual([pairs[0][0] for pairs in self.library.history("db")], ["create table t(a)", "insert into t values(1)", "insert into t values(3)"])


if __name__ == "__main__":
    unittest.main()
