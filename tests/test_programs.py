import random
import unittest

from cursorhouse.errors import Error, IntegrityError, OperationalError
from cursorhouse.library import Library, replay

TABLES = ("create table t(a integer primary key, b unique, c default 'x' not null check (c <> 'no'))", "create table u(a collate nocase unique, b text)",
          "create table w(k integer primary key autoincrement, v)")
COLUMNS = {"t": ("a", "b", "c"), "u": ("a", "b"), "w": ("k", "v")}
BEGINNINGS = ("begin", "begin immediate", "begin exclusive")
WORDS = (*BEGINNINGS, "commit", "rollback", "savepoint s", "savepoint r", "release s", "release r", "rollback to s", "rollback to r")
VALUES = ("null", "0", "1", "2", "3", "4", "'a'", "'A'", "'no'", "'1'", "?")


def random_change(chance):
    """Return an insert, update or delete, and its parameters."""
    table = chance.choice(list(COLUMNS))
    columns = COLUMNS[table]
    way = chance.choice(("", "", "or fail ", "or ignore ", "or replace ", "or rollback "))
    kind = chance.randrange(7)
    if kind < 3:
        rows = ", ".join("(" + ", ".join(chance.choice(VALUES) for _ in columns) + ")" for _ in range(chance.randint(1, 3)))
        sql = f"insert {way}into {table} values {rows}"
    elif kind == 3:
        sql = f"insert {way}into {table}({columns[-1]}) select {chance.choice(columns)} from {table} limit 2"
    elif kind < 6:
        new = chance.choice((*VALUES, columns[0] + " + 1"))
        sql = f"update {way}{table} set {chance.choice(columns)} = {new} where {columns[0]} {chance.choice(('> 1', 'isnull', 'notnull'))}"
    else:
        sql = f"delete from {table} where {chance.choice(columns)} = {chance.choice(VALUES)}"
    return sql, tuple(chance.choice((5, "b", None, 1)) for _ in range(sql.count("?")))


def random_definition(chance):
    return chance.choice(("create table x(a, b default 1)", "drop table x", "insert into x default values", "create table x(a unique)"))


def new_library():
    library = Library()
    first = library.connect("db", isolation_level=None)
    for sql in TABLES:
        first.execute(sql)
    first.close()
    return library


def told(call, *args):
    """Return what a call gives, or the error that it raises."""
    try:
        given = call(*args)
    except Error as error:
        return error.__class__.__name__, error.sqlite_errorname
    if hasattr(given, "fetchall"):
        return given.rowcount, given.lastrowid, given.description, given.fetchall()
    return given


def seen(db):
    """Return what a connection tells of itself; nothing of it takes a lock."""
    return db.in_transaction, db.lock, db.total_changes, db.execute("select changes(), last_insert_rowid()").fetchall()


class HistoryTest(unittest.TestCase):
    """Point 2: the committed state is the one to which the history leads, and each statement sees a committed state."""

    def run_anything(self, chance, db):
        kind = chance.randrange(12)
        if kind < 5:
            told(db.execute, *random_change(chance))
        elif kind == 5:
            told(db.execute, random_definition(chance))
        elif kind < 8:
            told(db.execute, chance.choice(WORDS))
        elif kind == 8:
            told(chance.choice((db.commit, db.rollback, lambda: db.leave(False), lambda: db.leave(True), lambda: db.set_isolation_level(None))))
        elif kind == 9:
            told(db.executescript, "; ".join(chance.choice((chance.choice(WORDS), random_change(chance)[0])) for _ in range(3)))
        elif kind == 10:
            db.cursor().close()
            told(db.cursor().execute, "select * from t")
        else:
            told(db.executemany, "insert or replace into u values(?, ?)", [(chance.randint(1, 3), "z") for _ in range(2)])

    def test_the_committed_state_is_that_of_the_history(self):
        chance = random.Random(2)
        for _ in range(60):
            library = new_library()
            connections = [library.connect("db", isolation_level=chance.choice((None, "", "IMMEDIATE", "EXCLUSIVE")), autocommit=chance.choice((-1, -1, True, False)))
                           for _ in range(3)]
            for _ in range(60):
                self.run_anything(chance, chance.choice(connections))
                if all(db.lock < 3 for db in connections):
                    self.assertEqual(library.connect("db").iterdump(), replay(library.history("db")).iterdump())
            for db in connections:
                db.close()
            self.assertEqual(library.connect("db").iterdump(), replay(library.history("db")).iterdump())

    def test_a_transaction_sees_the_state_at_its_first_lock_and_its_own_changes(self):
        chance = random.Random(3)
        compared = 0
        for _ in range(80):
            library = new_library()
            connections = [library.connect("db", isolation_level=None) for _ in range(3)]
            # Of each connection the history at the first lock of its transaction, and its own changes since.
            bases, own = [None] * 3, [[] for _ in range(3)]
            for _ in range(50):
                at = chance.randrange(3)
                db = connections[at]
                change = (chance.choice((*BEGINNINGS, "commit", "rollback", "select * from t limit 0")), ())
                if chance.random() < 0.6:
                    change = random_change(chance) if chance.random() < 0.9 else (random_definition(chance), ())
                if self.was_kept(db, *change) and db.in_transaction and not change[0].startswith(("begin", "select")):
                    own[at].append(change)
                if not db.in_transaction:
                    bases[at], own[at] = None, []
                elif bases[at] is None and db.lock > 0:
                    bases[at] = library.history("db")
                if bases[at] is not None:
                    compared += 1
                    self.assertEqual(db.iterdump(), replay([*bases[at], own[at]]).iterdump())
        self.assertGreater(compared, 500)

    def was_kept(self, db, sql, values):
        try:
            db.execute(sql, values)
        except OperationalError:
            return False
        except IntegrityError as error:
            return "or fail" in sql and "CONSTRAINT" in error.sqlite_errorname
        return True

    def test_a_refused_statement_changes_nothing(self):
        """But the lock in a transaction, `changes()`, and the row that was inserted last."""
        chance = random.Random(4)
        refused = 0
        for _ in range(80):
            library = new_library()
            connections = [library.connect("db", isolation_level=None) for _ in range(3)]
            for _ in range(40):
                db = chance.choice(connections)
                sql, values = chance.choice((random_change(chance), (random_definition(chance), ()), (chance.choice(WORDS), ()), ("select a from t", ())))
                if "or fail" in sql or "or rollback" in sql:
                    continue
                tables, lock = self.tables(db), db.lock
                before = db.in_transaction, db.total_changes, [other.lock for other in connections if other is not db], library.history("db")
                found = told(db.execute, sql, values)
                if len(found) != 2:
                    continue
                refused += 1
                if not db.in_transaction or sql in BEGINNINGS or sql == "select a from t":
                    self.assertEqual(db.lock, lock)
                self.assertEqual((db.in_transaction, db.total_changes, [other.lock for other in connections if other is not db], library.history("db")), before)
                if tables is not None:
                    self.assertEqual(self.tables(db), tables)
        self.assertGreater(refused, 300)

    def tables(self, db):
        """Return the tables as a connection sees them, None if reading them would take a lock or is refused."""
        if db.in_transaction and db.lock == 0:
            return None
        dump = told(db.iterdump)
        return None if isinstance(dump, tuple) else dump


class ModesTest(unittest.TestCase):
    """Point 2: a program in another mode does the same as one that executes `begin`, `commit` and `rollback` itself."""

    def run_programs(self, mode, execute, commit, rollback):
        """Run programs in a mode, and with isolation_level None and the functions that stand for its methods."""
        chance = random.Random(f"modes {mode}")
        for _ in range(60):
            level = chance.choice(("", "DEFERRED", "IMMEDIATE", "EXCLUSIVE"))
            libraries = [new_library(), new_library()]
            one = libraries[0].connect("db", isolation_level=level, autocommit=mode)
            two = libraries[1].connect("db", isolation_level=None)
            if mode is False:
                two.execute("begin")
            others = [library.connect("db", isolation_level=None) for library in libraries]
            for _ in range(40):
                kind = chance.randrange(8)
                if kind == 0:
                    self.disturb(chance, others)
                    continue
                if kind == 1:
                    found = told(one.commit), told(commit, two)
                elif kind == 2:
                    found = told(one.rollback), told(rollback, two)
                else:
                    change = random_change(chance) if kind < 6 else (chance.choice((*WORDS, "select a from t", "select b from u limit 1")), ())
                    if chance.random() < 0.1:
                        change = (change[0], (1,) * 9)
                    found = told(one.execute, *change), told(execute, two, level, *change)
                self.assertEqual(found[0], found[1])
                self.assertEqual(seen(one), seen(two))
            for other in others:
                other.close()
            self.assertEqual(one.iterdump(), two.iterdump())
            self.assertEqual(libraries[0].history("db"), libraries[1].history("db"))

    def disturb(self, chance, others):
        sql = chance.choice((*BEGINNINGS, "rollback", "commit", "select * from t", "update u set b = 1"))
        found = [told(other.execute, sql) for other in others]
        self.assertEqual(found[0], found[1])

    def test_legacy_mode(self):
        def execute(db, level, sql, values):
            if sql.startswith(("insert", "update", "delete")) and not db.in_transaction:
                db.execute("begin " + level)
            return db.execute(sql, values)

        def end(word):
            return lambda db: None if not db.in_transaction or db.execute(word) else None

        self.run_programs(-1, execute, end("commit"), end("rollback"))

    def test_autocommit_false(self):
        def end(word):
            return lambda db: None if db.execute(word) and db.execute("begin") else None

        self.run_programs(False, lambda db, level, sql, values: db.execute(sql, values), end("commit"), end("rollback"))

    def test_autocommit_true(self):
        self.run_programs(True, lambda db, level, sql, values: db.execute(sql, values), lambda db: None, lambda db: None)


class DumpTest(unittest.TestCase):
    """Point 49: a dump that is executed gives the same rows."""

    def test_round_trips(self):
        chance = random.Random(49)
        for _ in range(60):
            library = new_library()
            db = library.connect("db", isolation_level=None)
            db.execute('create table "q q"("c;1" text default \'--\', d check (d <> 9) -- a comment\n, e varchar(5))')
            for _ in range(15):
                told(db.execute, *random_change(chance))
                told(db.execute, 'insert into "q q" values(?, ?, ?)', tuple(chance.choice(("it's", "\n", ";", "--", "", None, -2 ** 63, 9, "9")) for _ in range(3)))
            copy = Library().connect("copy", isolation_level=None)
            copy.executescript("\n".join(db.iterdump()))
            self.assertEqual(copy.iterdump(), db.iterdump())
            for sql in ("select rowid, * from t", "select rowid, * from w", "select * from u", 'select * from "q q"'):
                self.assertEqual(copy.execute(sql).fetchall(), db.execute(sql).fetchall())


if __name__ == "__main__":
    unittest.main()
