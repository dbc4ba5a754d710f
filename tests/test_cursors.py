import unittest

from cursorhouse.rows import Row
from support import BUSY, ERROR, MISMATCH, PROGRAMMING, UNIQUE, DatabaseTest


def shown(cursor):
    return cursor.description, cursor.rowcount, cursor.lastrowid


class AttributesTest(DatabaseTest):
    """Point 51, and what points 42 and 47 say of cursors."""

    def test_at_first(self):
        cursor = self.db.cursor()
        self.assertIs(cursor.connection, self.db)
        self.assertEqual((shown(cursor), cursor.arraysize, cursor.row_factory), ((None, -1, None), 1, None))
        self.assertEqual((cursor.fetchone(), cursor.fetchmany(), cursor.fetchmany(3), cursor.fetchall()), (None, [], [], []))

    def test_arraysize(self):
        cursor = self.db.cursor()
        for size in (0, 1, 5, 2 ** 63 - 1):
            self.assertIsNone(cursor.set_arraysize(size=size))
            self.assertEqual(cursor.arraysize, size)
        for size in (-1, True, False, None, "1", [1], (), {}, 1.0, -10 ** 20, 2 ** 63, 2 ** 64, 10 ** 30, -2 ** 63):
            self.refused(PROGRAMMING, cursor.set_arraysize, size)
        self.assertEqual(cursor.arraysize, 2 ** 63 - 1)

    def test_a_closed_cursor(self):
        cursor = self.db.execute("select 1 as a")
        cursor.set_arraysize(4)
        cursor.set_row_factory("Row")
        cursor.close()
        cursor.close()
        for call in (lambda: cursor.execute("select 1"), lambda: cursor.executemany("", []), lambda: cursor.executescript(""), cursor.fetchone,
                     cursor.fetchmany, lambda: cursor.fetchmany(-1), cursor.fetchall, lambda: cursor.set_arraysize(2),
                     lambda: cursor.set_row_factory(None)):
            self.refused(PROGRAMMING, call)
        self.assertEqual((cursor.description[0][0], cursor.rowcount, cursor.lastrowid, cursor.arraysize, cursor.row_factory), ("a", -1, 0, 4, "Row"))
        self.assertEqual(self.rows("select 1"), [(1,)])


class ExecuteTest(DatabaseTest):
    """Points 52 to 54."""

    def setUp(self):
        super().setUp()
        self.run_all("create table t(a integer primary key, b unique)", "insert into t values(1, 1), (2, 2), (3, 3)")

    def test_what_a_select_leaves(self):
        cursor = self.db.cursor()
        self.assertIs(cursor.execute("select a, b as z, a + 1 from t"), cursor)
        rest = (None,) * 6
        self.assertEqual(cursor.description, (("a", *rest), ("z", *rest), ("a + 1", *rest)))
        self.assertEqual((cursor.rowcount, cursor.lastrowid), (-1, 3))
        cursor.execute("select a from t where 0")
        self.assertEqual((cursor.description, cursor.fetchone()), ((("a", *rest),), None))

    def test_what_other_statements_leave(self):
        cursor = self.db.cursor()
        for text, count, rowid in (("insert into t values(7, 7)", 1, 7), ("insert or ignore into t values(7, 8)", 0, 7), ("replace into t values(7, 9)", 1, 7),
                                   ("update t set b = a", 4, 7), ("delete from t where a > 5", 1, 7), ("delete from t where 0", 0, 7),
                                   ("create table u(a)", -1, 7), ("drop table u", -1, 7), ("begin", -1, 7), ("savepoint s", -1, 7), ("commit", -1, 7),
                                   ("create table if not exists t(a)", -1, 7), ("insert into t select 5, 5 where 0", 0, 7)):
            cursor.execute("select 1 as x")
            cursor.execute(text)
            self.assertEqual((shown(cursor), cursor.fetchall()), ((None, count, rowid), []), text)

    def test_lastrowid_is_that_of_the_connection(self):
        one, two = self.db.cursor(), self.db.cursor()
        one.execute("insert into t values(10, 10)")
        self.assertEqual((one.lastrowid, two.lastrowid), (10, None))
        two.execute("select 1")
        self.assertEqual(two.lastrowid, 10)
        other = self.connect().cursor()
        other.execute("select 1")
        self.assertEqual(other.lastrowid, 0)

    def test_after_an_error(self):
        cursor = self.db.execute("select a from t")
        cursor.fetchone()
        for text, wanted in (("selec", ERROR), ("select 9223372036854775807 + 1", ERROR), ("insert into t values(9, 9), (1, 1)", "IntegrityError SQLITE_CONSTRAINT_PRIMARYKEY"),
                             ("commit", ERROR), ("select ?", PROGRAMMING), ("select 1; select 2", PROGRAMMING), ("select 1 limit ''", MISMATCH)):
            cursor.execute("select a from t")
            self.assertEqual(self.db.lock, 1)
            self.refused(wanted, cursor.execute, text)
            self.assertEqual((cursor.description, cursor.rowcount, cursor.fetchone(), cursor.fetchall(), self.db.lock), (None, -1, None, [], 0), text)

    def test_lastrowid_stays_behind_an_error(self):
        cursor = self.db.execute("insert into t values(9, 9)")
        self.refused(UNIQUE, cursor.execute, "insert or fail into t values(20, 20), (21, 1)")
        self.assertEqual(shown(cursor), (None, -1, 9))
        self.assertEqual(cursor.execute("").lastrowid, 9)
        self.assertEqual(cursor.execute("select 1").lastrowid, 20)

    def test_empty_statements(self):
        for text in ("", " ", ";", " ; ;; ", "-- select 1", "/* select 1", "; /* x */ -- y\n;\n"):
            cursor = self.db.execute("select a from t")
            cursor.fetchone()
            self.assertIs(cursor.execute(text, ("any", "thing")), cursor)
            self.assertEqual((cursor.description, cursor.rowcount, cursor.lastrowid, cursor.fetchall(), self.db.lock), (None, -1, 3, [], 0))
        self.assertEqual(shown(self.db.cursor().execute("")), (None, -1, None))

    def test_semicolons_and_comments(self):
        for text in ("select 1", ";select 1", " ; -- x\n ; select 1;", "select 1; /* a */ -- b", "select 1;\n", "/*;*/select/*;*/1/*;*/;"):
            self.assertEqual(self.rows(text), [(1,)], text)
        for text in ("select 1; select 2", "select 1;;", "select 1; ;", "select 1;x", "select 1; '", "select 1;#", "delete from t; delete from t",
                     "select 1; -- x\n 2"):
            self.refused(PROGRAMMING, self.db.execute, text)
        self.assertEqual(self.rows("select ';', \"a\" from t limit 1"), [(";", 1)])
        self.assertEqual(len(self.rows("select * from t")), 3)

    def test_preparing_goes_ahead_of_the_rest_of_the_text(self):
        self.refuses(ERROR, "selec; select 1", "select x from t; select 1", "insert into t values(1); x", "#; select 1", "select 1a; select 2")
        self.refused(PROGRAMMING, self.db.execute, "select ?, ?; select 2", object())

    def test_the_rest_of_the_text_goes_ahead_of_the_begin(self):
        db = self.connect("IMMEDIATE")
        self.run_all("begin immediate")
        self.refused(PROGRAMMING, db.execute, "insert into t values(?, 2); x")
        self.refused(BUSY, db.execute, "insert into t values(?, 2)", "nothing")
        self.assertFalse(db.in_transaction)
        self.run_all("commit")
        self.refused(PROGRAMMING, db.execute, "insert into t values(?, 2)", "nothing")
        self.assertEqual((db.in_transaction, db.lock), (True, 2))

    def test_binding_goes_ahead_of_the_locks(self):
        other = self.connect()
        other.execute("begin exclusive")
        self.refused(PROGRAMMING, self.db.execute, "select * from t where a = ?", ())
        self.refused("DataError None", self.db.execute, "select * from t where a = ?", (2 ** 63,))
        self.refused(BUSY, self.db.execute, "select * from t where a = ?", (1,))
        self.refused(PROGRAMMING, self.db.execute, "commit", (1,))

    def test_the_lock_of_the_own_rows_is_given_back_first(self):
        cursor = self.db.execute("select a from t")
        other = self.connect()
        self.refused(BUSY, other.execute, "begin exclusive")
        self.refused(ERROR, cursor.execute, "nonsense")
        other.execute("begin exclusive")
        self.refused(BUSY, cursor.execute, "select a from t")
        self.assertEqual(self.db.lock, 0)

    def test_rows_are_determined_at_once(self):
        cursor = self.db.execute("select a from t order by a")
        self.run_all("insert into t values(4, 4)")
        self.assertEqual(cursor.fetchone(), (1,))
        self.run_all("delete from t", "create table u(x)")
        self.assertEqual(cursor.fetchall(), [(2,), (3,)])
        self.run_all("drop table t")

    def test_cursors_side_by_side(self):
        one, two = self.db.cursor(), self.db.cursor()
        one.execute("select a from t")
        two.execute("select b + 10 from t")
        self.assertEqual([one.fetchone(), two.fetchone(), two.fetchone(), one.fetchone(), one.fetchone(), one.fetchone(), two.fetchone()],
                         [(1,), (11,), (12,), (2,), (3,), None, (13,)])
        one.execute("select 5")
        two.execute("delete from t where a = 1")
        self.assertEqual((one.fetchall(), two.rowcount, one.rowcount), ([(5,)], 1, -1))

    def test_later_changes_to_the_parameters(self):
        given = [1]
        cursor = self.db.execute("select ?", given)
        given[0] = 2
        self.assertEqual((cursor.fetchall(), given), ([(1,)], [2]))


class ExecutemanyTest(DatabaseTest):
    """Point 55."""

    def setUp(self):
        super().setUp()
        self.run_all("create table t(a integer primary key, b unique)")

    def test_one_change_for_each_element(self):
        cursor = self.db.cursor()
        self.assertIs(cursor.executemany("insert into t(b) values(?)", [(1,), ["x"], (None,)]), cursor)
        self.assertEqual(shown(cursor), (None, 3, None))
        self.assertEqual(self.rows("select b from t"), [(1,), ("x",), (None,)])
        cursor.executemany("update t set b = :v where a <= :k", ({"v": None, "k": 2}, {"v": None, "k": 3}))
        self.assertEqual(cursor.rowcount, 5)
        cursor.executemany("delete from t where a = ?", [(1,), (9,)])
        self.assertEqual(cursor.rowcount, 1)
        cursor.executemany("replace into t values(?, ?);", [(2, 2), (3, 2)])
        self.assertEqual((cursor.rowcount, self.rows("select * from t")), (2, [(3, 2)]))

    def test_lastrowid_stays(self):
        cursor = self.db.execute("insert into t values(5, 5)")
        cursor.executemany("insert into t(b) values(?)", [(7,), (8,)])
        self.assertEqual(cursor.lastrowid, 5)

    def test_without_elements(self):
        cursor = self.db.execute("select 1")
        cursor.executemany("insert into t(b) values(?)", [])
        self.assertEqual((cursor.description, cursor.rowcount, cursor.lastrowid, cursor.fetchall()), (None, 0, 0, []))
        db = self.connect("IMMEDIATE")
        self.assertEqual(db.executemany("delete from t", ()).rowcount, 0)
        self.assertEqual((db.in_transaction, db.lock), (True, 2))

    def test_other_statements_are_refused(self):
        cursor = self.db.execute("select 1 as x")
        for text in ("select 1", "create table u(a)", "drop table t", "begin", "commit", "savepoint s", "", ";", "-- x", "create table if not exists t(a)",
                     "delete from t; delete from t"):
            cursor.execute("select 1 as x")
            self.refused(PROGRAMMING, cursor.executemany, text, [()])
            self.assertEqual((cursor.description, cursor.rowcount, cursor.fetchall()), (None, -1, []))
        for text in ("selec", "insert into nosuch values(1)", "delete from t where x; y"):
            self.refused(ERROR, cursor.executemany, text, [()])
        self.assertFalse(self.db.in_transaction)
        self.assertEqual(self.rows("select * from t"), [])

    def test_an_error_keeps_what_earlier_elements_did(self):
        cursor = self.db.cursor()
        self.refused(UNIQUE, cursor.executemany, "insert into t(b) values(?)", [(1,), (2,), (1,), (4,)])
        self.assertEqual((cursor.rowcount, self.rows("select b from t"), self.db.total_changes), (-1, [(1,), (2,)], 2))
        self.refused(PROGRAMMING, cursor.executemany, "insert into t(b) values(?)", [(3,), (), (4,)])
        self.assertEqual(self.rows("select b from t"), [(1,), (2,), (3,)])
        self.refused(UNIQUE, cursor.executemany, "insert or fail into t(b) values(?), (1)", [(7,)])
        self.assertEqual((cursor.rowcount, len(self.rows("select b from t"))), (-1, 4))

    def test_the_way_rollback_takes_the_transaction(self):
        db = self.connect("")
        self.refused(UNIQUE, db.executemany, "insert or rollback into t(b) values(?)", [(1,), (2,), (1,)])
        self.assertEqual((db.in_transaction, self.rows("select * from t")), (False, []))
        self.refused(UNIQUE, self.db.executemany, "insert or rollback into t(b) values(?)", [(1,), (2,), (1,)])
        self.assertEqual(len(self.rows("select * from t")), 2)

    def test_one_begin_for_all(self):
        db = self.connect("")
        db.executemany("insert into t(b) values(?)", [(1,), (2,)])
        self.assertTrue(db.in_transaction)
        db.commit()
        self.assertEqual(len(self.library.history("db")[-1]), 2)
        self.db.executemany("insert into t(b) values(?)", [(3,), (4,)])
        self.assertEqual([len(pairs) for pairs in self.library.history("db")], [1, 2, 1, 1])

    def test_a_refused_lock_between_elements(self):
        reader = self.connect()
        self.db.execute("insert into t(b) values(0)")
        cursor = reader.execute("select * from t")
        self.refused(BUSY, self.db.executemany, "insert into t(b) values(?)", [(1,), (2,)])
        cursor.close()
        self.assertEqual(len(self.rows("select * from t")), 1)


class ExecutescriptTest(DatabaseTest):
    """Point 56."""

    def setUp(self):
        super().setUp()
        self.run_all("create table t(a unique)")

    def test_all_statements(self):
        cursor = self.db.cursor()
        self.assertIs(cursor.executescript("insert into t values(1);; ; -- x;\n insert into t values(';') ; select * from t; /* ; */ create table u(x); insert into u values(2)"), cursor)
        self.assertEqual(self.rows("select a, x from t, u"), [(1, 2), (";", 2)])
        for text in ("", ";", " -- x", "select 1"):
            cursor.executescript(text)

    def test_what_the_cursor_has_stays(self):
        self.run_all("insert into t values(1), (2)")
        cursor = self.db.execute("select a from t")
        before = shown(cursor)
        cursor.fetchone()
        cursor.executescript("insert into t values(3); select 5 as z; select * from t")
        self.assertEqual((shown(cursor), self.db.lock), (before, 1))
        self.refused("OperationalError SQLITE_LOCKED", cursor.executescript, "drop table t")
        self.assertEqual((cursor.fetchall(), self.db.lock), ([(2,)], 0))
        counted = self.db.execute("delete from t where a = 1")
        counted.executescript("delete from t")
        self.assertEqual(counted.rowcount, 1)

    def test_the_first_error_ends_it(self):
        self.refused(UNIQUE, self.db.executescript, "insert into t values(1); insert into t values(1); insert into t values(2)")
        self.refused(ERROR, self.db.executescript, "insert into t values(3); selec; insert into t values(4)")
        self.refused(ERROR, self.db.executescript, "insert into t values(5); select '; insert into t values(6)")
        self.refused(ERROR, self.db.executescript, "begin; insert into t values(7); begin")
        self.assertTrue(self.db.in_transaction)
        self.assertEqual(self.rows("select a from t"), [(1,), (3,), (5,), (7,)])

    def test_integers_of_thousands_of_digits(self):
        for digits in ("1" * 4301, "9" * 5000, "0" * 4400 + "1" * 30, "0" * 5000 + "9223372036854775808"):
            self.run_all("delete from t")
            self.refused(ERROR, self.db.executescript, "insert into t values(1); select " + digits)
            self.assertEqual(self.rows("select a from t"), [(1,)])
        self.db.executescript(f"insert into t values({'0' * 5000}7), (-{'0' * 5000}9223372036854775808)")
        self.assertEqual(self.rows("select a from t"), [(1,), (7,), (-2 ** 63,)])

    def test_placeholders_are_null(self):
        self.db.executescript("insert into t values(?); insert into t values(coalesce(:x, @y, ?9, 'q'))")
        self.assertEqual(self.rows("select a from t"), [(None,), ("q",)])
        self.assertEqual(self.library.history("db")[-1][0][1], (None,) * 9)

    def test_an_open_transaction_is_committed_in_legacy_mode(self):
        db = self.connect("")
        db.execute("insert into t values(1)")
        db.executescript("select 1")
        self.assertFalse(db.in_transaction)
        db.executescript("insert into t values(2)")
        self.assertFalse(db.in_transaction)
        db.executescript("begin; insert into t values(3)")
        self.assertTrue(db.in_transaction)
        reader = self.connect()
        reading = reader.execute("select * from t")
        self.refused(BUSY, db.executescript, "rollback")
        self.assertTrue(db.in_transaction)
        reading.close()
        self.run_all("select 1")
        db.executescript("")
        self.assertEqual(len(self.rows("select * from t")), 3)

    def test_no_commit_in_other_modes(self):
        for mode in (True, False):
            db = self.connect("", autocommit=mode)
            if mode:
                db.execute("begin")
            db.executescript("insert into t values(1); select * from t")
            self.assertEqual((db.in_transaction, db.lock), (True, 2))
            db.close()
        self.assertEqual(self.rows("select * from t"), [])

    def test_no_converters_and_no_reading(self):
        self.library.register_converter("x", lambda text: 1 // 0)
        db = self.library.connect("db", isolation_level=None, detect_types=3)
        db.executescript("create table u(a x); insert into u values(1), (2); select a as \"a [x]\" from u")
        self.assertEqual(db.lock, 0)
        self.assertRaises(ZeroDivisionError, db.execute, "select a from u")


class FetchTest(DatabaseTest):
    """Points 57 and 63."""

    def setUp(self):
        super().setUp()
        self.run_all("create table t(a)", "insert into t values(1), (2), (3), (4), (5)")
        self.cursor = self.db.execute("select a from t")

    def test_fetchone_fetchmany_and_fetchall(self):
        self.assertEqual(self.cursor.fetchone(), (1,))
        self.assertEqual(self.cursor.fetchmany(2), [(2,), (3,)])
        self.assertEqual(self.cursor.fetchmany(), [(4,)])
        self.assertEqual(self.cursor.fetchmany(0), [])
        self.assertEqual(self.db.lock, 1)
        self.assertEqual(self.cursor.fetchall(), [(5,)])
        self.assertEqual(self.db.lock, 0)
        self.assertEqual((self.cursor.fetchone(), self.cursor.fetchmany(9), self.cursor.fetchall()), (None, [], []))

    def test_fetchmany_with_sizes(self):
        self.cursor.set_arraysize(3)
        self.assertEqual(self.cursor.fetchmany(None), [(1,), (2,), (3,)])
        for size in (-1, True, False, "1", [1], (), 2.0, 2 ** 63, 2 ** 64, 10 ** 30, -10 ** 30):
            self.refused(PROGRAMMING, self.cursor.fetchmany, size)
        self.cursor.set_arraysize(0)
        self.assertEqual(self.cursor.fetchmany(), [])
        self.assertEqual(self.cursor.fetchmany(size=2 ** 63 - 1), [(4,), (5,)])
        self.refused(PROGRAMMING, self.db.cursor().fetchmany, -1)
        self.refused(PROGRAMMING, self.db.cursor().fetchmany, 2 ** 63)

    def test_a_returned_list_belongs_to_the_caller(self):
        self.cursor.fetchmany(2).clear()
        rows = self.cursor.fetchall()
        rows.append(1)
        self.assertEqual(self.cursor.fetchall(), [])
        self.assertIsInstance(self.db.execute("select 1").fetchone(), tuple)

    def test_close_gives_the_lock_back(self):
        self.cursor.close()
        self.assertEqual((self.db.lock, self.cursor.description[0][0]), (0, "a"))

    def test_named_rows(self):
        self.cursor.set_row_factory("Row")
        row = self.cursor.fetchone()
        self.assertIsInstance(row, Row)
        self.assertEqual(row, Row(["a"], [1]))
        self.cursor.set_row_factory(None)
        self.assertEqual(self.cursor.fetchone(), (2,))
        self.cursor.set_row_factory(factory="Row")
        self.assertEqual([row.item("A") for row in self.cursor.fetchall()], [3, 4, 5])

    def test_a_function_as_row_factory(self):
        told = []
        self.cursor.set_row_factory(lambda cursor, row: told.append((cursor, row)) or {"a": row[0]})
        self.assertEqual(told, [])
        self.assertEqual(self.cursor.fetchone(), {"a": 1})
        self.assertEqual(self.cursor.fetchmany(2), [{"a": 2}, {"a": 3}])
        self.assertEqual(told, [(self.cursor, (1,)), (self.cursor, (2,)), (self.cursor, (3,))])
        self.cursor.set_row_factory(lambda cursor, row: None)
        self.assertEqual((self.cursor.fetchall(), self.cursor.fetchone()), ([None, None], None))

    def test_a_row_factory_that_raises(self):
        def picky(cursor, row):
            if row[0] in (2, 4, 5):
                raise LookupError(row[0])
            return row
        self.cursor.set_row_factory(picky)
        self.assertEqual(self.cursor.fetchone(), (1,))
        self.assertRaises(LookupError, self.cursor.fetchone)
        self.assertRaises(LookupError, self.cursor.fetchmany, 3)
        self.assertEqual(self.db.lock, 1)
        self.assertRaises(LookupError, self.cursor.fetchall)
        self.assertEqual((self.db.lock, self.cursor.fetchall()), (0, []))

    def test_rows_before_the_one_at_which_it_raises_are_gone(self):
        def picky(cursor, row):
            return row[0] // (row[0] - 2)
        self.cursor.set_row_factory(picky)
        self.assertRaises(ZeroDivisionError, self.cursor.fetchall)
        self.assertEqual(self.cursor.fetchall(), [3, 2, 1])


class ExecutingTest(DatabaseTest):
    """Point 47."""

    def calls(self, cursor):
        return [lambda: self.db.isolation_level, lambda: self.db.autocommit, lambda: self.db.in_transaction, lambda: self.db.total_changes,
                lambda: self.db.lock, lambda: self.db.set_isolation_level(None), lambda: self.db.set_autocommit(True),
                lambda: self.db.set_row_factory(None), self.db.cursor, lambda: self.db.execute("select 1"), lambda: self.db.executemany("delete from t", []),
                lambda: self.db.executescript(""), self.db.commit, self.db.rollback, self.db.close, self.db.enter, lambda: self.db.leave(False),
                self.db.iterdump, lambda: self.db.create_function("f", 0, None), lambda: self.db.create_aggregate("f", 0, None),
                lambda: self.db.create_collation("k", None), lambda: cursor.execute("select 1"), lambda: cursor.executemany("", []),
                lambda: cursor.executescript(""), cursor.fetchone, cursor.fetchmany, cursor.fetchall, cursor.close,
                lambda: cursor.set_arraysize(1), lambda: cursor.set_row_factory(None)]

    def test_everything_is_refused_but_attributes(self):
        self.run_all("create table t(a x)", "insert into t values(1), (2)")
        self.db = self.connect(detect_types=1)
        cursor = self.db.execute("select a from t")
        counts = []

        def spy(*told):
            for call in self.calls(cursor):
                self.refused(PROGRAMMING, call)
            self.assertEqual((cursor.arraysize, cursor.rowcount, cursor.description[0][0], cursor.connection.row_factory), (1, -1, "a", None))
            counts.append(told)
            return 0

        self.db.create_function("f", 1, spy)
        self.db.create_aggregate("g", 1, spy)
        self.db.create_collation("k", spy)
        self.library.register_adapter("list", spy)
        for run in (lambda: self.db.execute("select f(1)"), lambda: self.db.execute("select g(1)"), lambda: self.db.execute("select 'a' = 'b' collate k"),
                    lambda: self.db.execute("select ?", ([],)), lambda: self.db.executemany("insert into t values(?)", [([],)]),
                    lambda: self.db.executescript("select f(1)"), lambda: self.db.execute("insert into t values(f(2))")):
            before = len(counts)
            run()
            self.assertGreater(len(counts), before)
        self.library.register_converter("x", spy)
        before = len(counts)
        self.db.execute("select a from t limit 1")
        self.assertEqual(len(counts), before + 1)
        self.db.execute("create table u(y)")
        fetching = self.db.execute("select 1")
        fetching.set_row_factory(spy)
        self.assertEqual(fetching.fetchone(), 0)
        self.assertEqual(self.db.lock, 1)

    def test_behind_an_error_it_is_over(self):
        def fail(*told):
            raise LookupError()
        self.library.register_adapter("list", fail)
        self.assertRaises(LookupError, self.db.execute, "select ?", ([],))
        self.assertFalse(self.db.in_transaction)
        cursor = self.db.execute("select 1")
        cursor.set_row_factory(fail)
        self.assertRaises(LookupError, cursor.fetchone)
        self.assertEqual(self.value("5"), 5)

    def test_a_function_that_uses_its_connection_fails(self):
        self.db.create_function("f", 0, lambda: self.db.execute("select 1").fetchone()[0])
        self.refuses(ERROR, "select f()")


if __name__ == "__main__":
    unittest.main()
