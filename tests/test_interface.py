import ast
import importlib
import inspect
import unittest
from pathlib import Path

from support import ERROR, PROGRAMMING, DatabaseTest

EMPTY = inspect.Parameter.empty
ERRORS = ("Error", "InterfaceError", "DatabaseError", "DataError", "OperationalError", "IntegrityError", "InternalError", "ProgrammingError", "NotSupportedError")
# Of each function and method the names of the parameters with their default values; those behind a star in a list of their own.
FUNCTIONS = {
    "library": {"replay": ("history",)},
    "texts": {"complete_statement": ("sql",)},
    "scripts": {
        "first_state": ("scripts",), "next_state": ("scripts", "state", "at"), "refusal": ("scripts",), "is_order": ("scripts", "order"),
        "is_never": ("scripts", "states"), "stuck": ("scripts",), "is_stuck": ("scripts", "order"), "is_free": ("scripts", "states"), "calmed": ("scripts",),
    },
}
CLASSES = {
    "errors": {name: {"__init__": (("sqlite_errorname", None),)} for name in ERRORS},
    "library": {"Library": {
        "__init__": (), "connect": ("database", [("isolation_level", ""), ("autocommit", -1), ("detect_types", 0)]), "register_adapter": ("kind", "function"),
        "register_converter": ("name", "function"), "history": ("database",)}},
    "connections": {"Connection": {
        "set_isolation_level": ("level",), "set_autocommit": ("mode",), "set_row_factory": ("factory",), "cursor": (), "execute": ("sql", ("parameters", ())),
        "executemany": ("sql", "sets"), "executescript": ("sql",), "commit": (), "rollback": (), "close": (), "enter": (), "leave": ("failed",), "iterdump": (),
        "create_function": ("name", "narg", "function"), "create_aggregate": ("name", "narg", "function"), "create_collation": ("name", "function")}},
    "cursors": {"Cursor": {
        "set_arraysize": ("size",), "set_row_factory": ("factory",), "execute": ("sql", ("parameters", ())), "executemany": ("sql", "sets"), "executescript": ("sql",),
        "fetchone": (), "fetchmany": (("size", None),), "fetchall": (), "close": ()}},
    "rows": {"Row": {"__init__": ("names", "cells"), "keys": (), "item": ("key",), "cells": (), "__len__": (), "__eq__": ("other",)}},
}
PROPERTIES = ("isolation_level", "autocommit", "in_transaction", "total_changes", "lock")
PACKAGE = Path(importlib.import_module("cursorhouse").__file__).parent


def module_named(name):
    return importlib.import_module("cursorhouse." + name)


def expanded(parameters):
    """Return the listed parameters as pairs, and those behind a star as a set of pairs."""
    plain = [parameter if isinstance(parameter, tuple) else (parameter, EMPTY) for parameter in parameters if not isinstance(parameter, list)]
    starred = {pair for parameter in parameters if isinstance(parameter, list) for pair in parameter}
    return plain, starred


def found_parameters(function, skipped):
    parameters = list(inspect.signature(function).parameters.values())[skipped:]
    plain = [(parameter.name, parameter.default) for parameter in parameters if parameter.kind == parameter.POSITIONAL_OR_KEYWORD]
    starred = {(parameter.name, parameter.default) for parameter in parameters if parameter.kind == parameter.KEYWORD_ONLY}
    assert len(plain) + len(starred) == len(parameters)
    return plain, starred


class InterfaceTest(DatabaseTest):
    """Point 4, and the section "The interface"."""

    def test_functions(self):
        for file, functions in FUNCTIONS.items():
            for name, parameters in functions.items():
                function = getattr(module_named(file), name)
                self.assertEqual((function.__module__, function.__name__), ("cursorhouse." + file, name))
                self.assertEqual(found_parameters(function, 0), expanded(parameters), name)

    def test_classes_and_their_methods(self):
        for file, classes in CLASSES.items():
            for name, methods in classes.items():
                found = getattr(module_named(file), name)
                self.assertEqual((found.__module__, found.__name__), ("cursorhouse." + file, name))
                for method, parameters in methods.items():
                    if method == "__init__" and not parameters:
                        self.assertEqual(list(inspect.signature(found).parameters), [])
                        continue
                    self.assertIn(method, vars(found), name)
                    self.assertEqual(found_parameters(vars(found)[method], 1), expanded(parameters), (name, method))

    def test_properties_and_attributes(self):
        connection = vars(module_named("connections").Connection)
        for name in PROPERTIES:
            self.assertIsInstance(connection[name], property)
            self.assertRaises(AttributeError, setattr, self.db, name, 1)
        self.assertEqual(set(vars(self.db)) & {"row_factory", *PROPERTIES}, {"row_factory"})
        cursor = self.db.cursor()
        for name in ("connection", "description", "rowcount", "lastrowid", "arraysize", "row_factory"):
            self.assertIn(name, vars(cursor))
        for name in ERRORS:
            self.assertIn("sqlite_errorname", vars(getattr(module_named("errors"), name)()))

    def test_constants(self):
        library = module_named("library")
        self.assertEqual((library.PARSE_DECLTYPES, library.PARSE_COLNAMES, library.LEGACY_TRANSACTION_CONTROL), (1, 2, -1))

    def test_no_module_imports_itself_through_others(self):
        imports = {}
        for path in PACKAGE.glob("*.py"):
            tree = ast.parse(path.read_text())
            imports["cursorhouse." + path.stem] = {node.module for node in ast.walk(tree) if isinstance(node, ast.ImportFrom)}
        for start in imports:
            seen, waiting = set(), set(imports[start])
            while waiting:
                name = waiting.pop()
                seen.add(name)
                waiting |= imports[name] - seen
            self.assertNotIn(start, seen)

    def test_methods_by_keyword(self):
        db = self.library.connect(database="k", isolation_level=None, autocommit=-1, detect_types=3)
        db.set_isolation_level(level="IMMEDIATE")
        db.set_autocommit(mode=True)
        db.set_row_factory(factory="Row")
        db.create_function(name="f", narg=1, function=lambda value: value)
        db.create_aggregate(name="g", narg=1, function=lambda rows: len(rows))
        db.create_collation(name="k", function=lambda one, other: (one > other) - (one < other))
        db.execute(sql="create table t(a)").close()
        cursor = db.executemany(sql="insert into t values(?)", sets=[(1,), (2,)])
        self.assertEqual(cursor.rowcount, 2)
        db.executescript(sql="insert into t values(3)")
        self.assertEqual(db.execute(sql="select f(g(a)) from t where a < ?", parameters=(3,)).fetchone().item(key=0), 2)
        self.assertIs(db.leave(failed=False), False)
        cursor.set_arraysize(size=2)
        cursor.set_row_factory(factory=None)
        cursor.execute(sql="select a from t order by a collate k", parameters={})
        self.assertEqual((cursor.fetchmany(size=1), cursor.fetchmany()), ([(1,)], [(2,), (3,)]))
        self.assertEqual(len(self.library.history(database="k")), 4)
        replayed = module_named("library").replay(history=self.library.history("k"))
        self.assertEqual(replayed.iterdump(), db.iterdump())

    def test_what_methods_return(self):
        db, library = self.db, self.library
        for returned in (db.set_isolation_level(None), db.set_autocommit(-1), db.set_row_factory(None), db.commit(), db.rollback(), db.create_function("f", 1, None),
                         db.create_aggregate("f", 1, None), db.create_collation("k", None), library.register_adapter("int", None), library.register_converter("x", None),
                         db.cursor().set_arraysize(1), db.cursor().set_row_factory(None), db.cursor().close(), db.close(), db.close()):
            self.assertIsNone(returned)

    def test_lists_stand_for_tuples(self):
        self.run_all("create table t(a, b)")
        self.db.executemany("insert into t values(?, ?)", ([1, 2], (3, 4)))
        self.assertEqual(self.rows("select a from t where b < ?", [4]), [(1,)])
        history = self.library.history("db")
        lists = [[[sql, list(values)] for sql, values in pairs] for pairs in history]
        replay = module_named("library").replay
        for told in (history, tuple(history), lists, tuple(lists)):
            self.assertEqual(replay(told).iterdump(), self.db.iterdump())

    def test_arguments_are_not_changed_and_later_changes_have_no_effect(self):
        self.run_all("create table t(a, b)")
        one, named, sets = [1, 2], {"a": 3, "b": 4}, [[5, 6], [7, 8]]
        cursor = self.db.execute("select ?, ?", one)
        one[0] = 9
        self.assertEqual(cursor.fetchall(), [(1, 2)])
        self.db.execute("insert into t values(:a, :b)", named)
        self.db.executemany("insert into t values(?, ?)", sets)
        self.assertEqual((one, named, sets), ([9, 2], {"a": 3, "b": 4}, [[5, 6], [7, 8]]))
        named["a"] = sets[0][0] = 100
        history = self.library.history("db")
        self.assertEqual([values for pairs in history for _, values in pairs], [(), (3, 4), (5, 6), (7, 8)])
        replayed = module_named("library").replay(lists := [list(pairs) for pairs in history])
        lists.clear()
        self.assertEqual(replayed.iterdump(), self.db.iterdump())

    def test_a_returned_list_belongs_to_the_caller(self):
        self.run_all("create table t(a)", "insert into t values(1)")
        for tell in (lambda: self.library.history("db"), self.db.iterdump, lambda: self.rows("select a from t"), lambda: self.db.execute("select 1").fetchmany(1)):
            told = tell()
            wanted = list(told)
            told.clear()
            self.assertEqual(tell(), wanted)

    def test_what_there_is_not(self):
        """Point 3: statements of SQLite that are none of the forms."""
        self.run_all("create table t(a, b)", "create table u(a)")
        self.refuses(
            ERROR, "select (select 1)", "select 1 union select 2", "select 1 union all select 2", "select 1 except select 2", "select 'a' like 'a'", "select 'a' glob 'a'",
            "select cast(1 as text)", "select 0x10", "select 1.5", "select 1e3", "select x'00'", "select 5 & 3", "select 1 << 2", "select true", "select false",
            "create index i on t(a)", "create unique index i on t(a)", "create view v as select 1", "alter table t rename to v", "alter table t add c", "update t as x set a = 1",
            "delete from t as x", "select [a] from t", "select \"nosuch\" from t", "select 1 in (select 1)", "select exists (select 1)", "select * from (select 1)",
            "with x as (select 1) select * from x", "select 1 = not 1", "explain select 1", "pragma table_info(t)", "vacuum", "analyze", "attach 'x' as y", "values (1)",
            "insert into t values (1, 2) returning a", "insert into t values (1, 2) on conflict do nothing", "update t set a = 1 order by a limit 1", "delete from t limit 1",
            "select * from t natural join u", "select * from t cross join u", "select * from t join u using (a)", "create temp table v(a)",
            "create table v(a) without rowid", "create table v(a) strict", "create table v as select 1", "create table v(a references t)", "create table v(a generated always as (1))",
            "create table v(a, foreign key (a) references t)", "create table v(a constraint c unique)", "create table v(a, constraint c unique (a))", "create table v(a unique on conflict ignore)",
            "update t set (a, b) = (1, 2)", "select a from t limit 1, 2", "select a from t order by a nulls last", "select sum(a) filter (where 1) from t",
            "select count(*) over () from t", "select all 1", "select iif(1, 2, 3)", "select substr('a', 1)", "select a from main.t", "drop table main.t", "create table main.v(a)",
            "insert into t as x values (1, 2)", "select 1 where 1 regexp 2", "begin concurrent", "select a -> 1 from t", "select current_time", "select random()", "select date('now')")
        self.assertEqual(len(self.db.iterdump()), 4)

    def test_a_statement_that_is_not_complete_is_refused_ahead_of_what_stands_behind(self):
        self.refuses(ERROR, "selec 1; select 2")
        self.refused(PROGRAMMING, self.db.execute, "select 1; selec 2")


if __name__ == "__main__":
    unittest.main()
