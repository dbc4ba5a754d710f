import unittest

from support import ERROR, PROGRAMMING, DatabaseTest


class TokensTest(DatabaseTest):
    """Point 10."""

    def test_blanks_and_comments(self):
        for text in ("select/**/1", "select 1 -- end", "--x\nselect 1", "/* ; */ select /* '*/ 1 /* open", "select\n1\n",
                     "select -- ; \n 1", "/**/select 1;--x", "select 1 /*/ 2 */", "  select 1 ; \n -- x\n /* y */ "):
            self.assertEqual(self.rows(text), [(1,)], text)
        self.same_values({"1--1\n": 1, "5 -/**/-1": 6, "'--x'": "--x", "'/*'": "/*", "6 /*x*// 2": 3})
        self.assertEqual(self.db.execute('select 1 as "--x" ').description[0][0], "--x")

    def test_bad_tokens(self):
        for text in ("select 1a", "select 12_", "select 'abc", 'select "abc', 'select ""', "select #", "select [1]",
                     "select 1 ! 2", "select 1 | 2", "select :", "select @", "select $ ", "select 1\t", 'create table ""(a)', 'select 1 as ""', "create table w(a default -9223372036854775809)", "select 0x10",
                     "select 9223372036854775808", "select + 9223372036854775808", "select - + 9223372036854775808", "select 0 - 9223372036854775808", "select - (9223372036854775808)", "select 1 - 9223372036854775808",
                     "select -9223372036854775809", "select 99999999999999999999", "select 'a''", "#", "'"):
            self.refuses(ERROR, text)

    def test_texts_and_integers(self):
        self.same_values({"'it''s'": "it's", "''''": "'", "''": "", "'a\nb'": "a\nb", "007": 7, "'\"'": '"',
                          "9223372036854775807": 2 ** 63 - 1, "000000000000000000000001": 1})

    def test_names(self):
        self.run_all('create table "select"("a b" integer, "1", _x9 text)', 'insert into "select" values(1, 2, 3)')
        found = self.db.execute('select "a b", "1", _X9, "SELECT"."A B" from "Select"')
        self.assertEqual(([column[0] for column in found.description], found.fetchall()),
                         (["a b", "1", "_x9", "a b"], [(1, 2, "3", 1)]))
        self.refuses(ERROR, "select * from select", 'select "a""b" from "select"', 'select "nosuch" from "select"')

    def test_two_quoted_names_side_by_side(self):
        self.assertEqual(self.db.execute('select 1 "a"').description[0][0], "a")
        self.run_all("create table t(a)")
        self.assertEqual(self.db.execute('select "a""b" from t').description[0][0], "b")

    def test_keywords_are_no_names(self):
        for word in ("add all alter and as asc autoincrement begin between by case check collate commit constraint create "
                     "cross default deferred delete desc distinct drop else end escape except exclusive exists foreign "
                     "from group having if immediate in index inner insert intersect into is isnull join left like limit "
                     "natural not nothing notnull null offset on or order outer primary references release replace "
                     "returning rollback savepoint select set table then to transaction union unique update using values "
                     "when where with").split():
            self.refuses(ERROR, f"create table {word}(a)", f"create table t({word.upper()})", f"select 1 as {word}")
            self.run_all(f'create table t("{word}")', "drop table t")

    def test_words_that_are_names_elsewhere(self):
        self.run_all("create table abort(fail ignore, ignore key, key integer Primary Key)")
        self.run_all("insert or Abort into abort(key) values(1)", "insert or FAIL into abort values(1, 2, 3)",
                     "update or ignore abort set key = 3", "savepoint key", "release key")
        self.assertEqual(self.rows("select key as fail from abort as key"), [(1,), (3,)])
        self.refuses(ERROR, 'insert or "abort" into abort(key) values(9)', 'create table t(a primary "key")')

    def test_placeholder_tokens(self):
        self.assertEqual(self.rows("select ?1a, ?99 as b", list(range(99))), [(0, 98)])
        self.assertEqual(self.rows("select :1, @a_, $9x", {"1": 1, "a_": 2, "9x": 3}), [(1, 2, 3)])
        self.refuses(ERROR, "select ?0", "select ?01", "select ?100", "select ?1 2")


class FormsTest(DatabaseTest):
    """Point 11."""

    def setUp(self):
        super().setUp()
        self.run_all("create table t(a integer primary key, b text, c)", "create table u(a, d)")

    def test_what_is_one_of_the_forms(self):
        for text in ("create table if not exists T(x)", "create table v(a, b int(3), c decimal(+3, -2) not null unique)",
                     "drop table v", "drop table if exists v", "insert into t values (null, 1, 2), (null, 3, 4)",
                     "insert into t(b, c) select b, c from t where 0", "insert or rollback into t default values",
                     "replace into t(b) values(1)", "replace into t select null, 2, 3", "replace into t default values",
                     "update t set b = 1, c = 2", "update or fail t set b = 1 where a = 0", "delete from t",
                     "select t.*, * from t, u as q, t r", "select 1 x, 2 as y, t.a z from t inner join u on 1 join u v",
                     "select 1 from t left join u on 1 left outer join u v on t.a = v.a", "select count(*) having 1",
                     "select b from t where a group by b having b order by b asc, 1 desc limit 1 offset 0",
                     "select distinct a from t", "begin deferred transaction", "end transaction", "begin transaction",
                     "rollback transaction", "begin exclusive", "commit", "savepoint \"x y\"", "rollback to \"X Y\"",
                     "rollback transaction to savepoint \"x y\"", "release savepoint \"x y\"", "begin", "end",
                     "create table w(a default -1 not null)"):
            with self.subTest(text=text):
                self.db.execute(text)

    def test_what_is_none_of_the_forms(self):
        for text in ("selec 1", "select", "select ,", "select 1,", "select 1 from", "select all 1", "select 1 2", "select *",
                     "select 1 from t cross join u", "select 1 from t natural join u", "select 1 from t, u on 1",
                     "select 1 from t left join u", "select 1 from (select 1)", "select 1 union select 2", "select 1 limit 1, 2",
                     "select 1 offset 1", "select 1 order a", "select 1 from t inner u", "select 1 from t where", "values (1)",
                     "insert t values(1)", "insert into t(a) default values", "insert into t() values()",
                     "insert into t(a) values()", "insert into t values(1, 2, 3) values(1, 2, 3)", "insert or x into t default values",
                     "insert into t as q values(1, 2, 3)", "insert or values(1)", "update t b = 1", "update t set b = 1,",
                     "update t as q set b = 1", "update t set (b) = (1)", "update t set b == 1", "delete t", "delete from t q",
                     "delete from t limit 1", "drop t", "drop table", "drop table if t", "create table v", "create table v()",
                     "create table v(a,)", "create table v(a b c d(1,2,3))", "create table v(a (3))", "create table v(a int(x))",
                     "create table v(primary key(a))", "create table v(a, primary key(a) unique(a))", "create table v(a \"int\")",
                     "create table v(a, unique(a), b)", "create table v(a default b)", "create table v(a default - 'x')",
                     "create table v(a default ?)", "create table v(a check a)", "create table v(a) x", "create temp table v(a)",
                     "create table v(a, constraint c unique(a))", "create table v(a references t(a))", "create table v as select 1",
                     "create table x.v(a)", "create table v(a null)", "create table v(a primary)", "create table v(a collate)",
                     "create table v(a int(--3))", "create table v(a int(1.5))", "create index i on t(a)", "create view v as select 1",
                     "alter table t add column x", "pragma x", "explain select 1", "begin now", "begin transaction x", "begin immediate exclusive",
                     "commit x", "end to x", "savepoint", "release", "rollback to", "rollback x", "release savepoint", "with x as (select 1) select 1",
                     "insert into t default value", "select distinct", "replace t values(1)", "replace or fail into t default values",
                     "create table v(a default (1)", "select count(distinct a, b) from t", "select count(distinct) from t", "select t.a.b from t",
                     "select a as from t", "select a b c from t", "create table v(a default 'x' || 'y')", "create table v(a int -3)"):
            self.refuses(ERROR, text)

    def test_the_value_of_a_default_and_a_kind_at_the_ends(self):
        self.run_all("create table v(a decimal(-9223372036854775808, +1) default -9223372036854775808, b default + 5)",
                     "insert into v default values")
        self.assertEqual(self.rows("select * from v"), [(-2 ** 63, 5)])
        self.refuses(ERROR, "create table w(a default 9223372036854775808)", "create table w(a int(9223372036854775808))",
                     "create table w(a default + 9223372036854775808)")


class PreparingTest(DatabaseTest):
    """Points 13 and 14."""

    def setUp(self):
        super().setUp()
        self.run_all("create table t(a integer primary key, b text, c)", "create table u(a, d)", "create table r(rowid, x)",
                     "insert into t values(1, 'x', 2)", "insert into u values(3, 4)", "insert into r values('r', 9)")

    def test_columns_of_sources(self):
        for text, wanted in (
                ("select b, t.b, rowid, t.rowid from t", [("x", "x", 1, 1)]), ("select q.a from t q", [(1,)]),
                ("select t.a, u.a, d from t, u", [(1, 3, 4)]), ("select rowid from r", [("r",)]),
                ("select rowid from t, r", [("r",)]), ("select t.rowid, r.rowid from t, r", [(1, "r")]),
                ("select t.b from u t, t", [("x",)]), ("select T.A from t", [(1,)]), ("select \"RowId\" from t", [(1,)])):
            self.assertEqual(self.rows(text), wanted)

    def test_columns_that_are_not_there_or_ambiguous(self):
        self.refuses(ERROR, "select x from t", "select t.x from t", "select q.a from t", "select t.a from t q", "select a from t, u",
                     "select a from t, t q", "select rowid from t, u", "select t.a from t, t", "select t.rowid from t, t",
                     "select rowid", "select b", "select 1 from t join u on v.a join u v", "select oid from t",
                     "select t.a from t, u t", "select t.rowid from t, u t", "select _rowid_ from t")

    def test_aliases(self):
        for text, wanted in (
                ("select a + 1 as z from t where z = 2", [(2,)]), ("select c as b from t where b = 'x'", [(2,)]),
                ("select 1 as z, 2 as z from t where z = 1", [(1, 2)]), ("select c as z from t group by z having z = 2", [(2,)]),
                ("select c as z from t order by z + 1", [(2,)]), ("select 5 as z order by z", [(5,)]),
                ("select t.c as z from t join u on z = 2", [(2,)]), ("select count(*) as n from t having n = 1", [(1,)]),
                ("select b as q, a as b from t where q = 'x'", [("x", 1)]), ("select a as \"z z\" from t where \"Z Z\" = 1", [(1,)]),
                ("select 7 as rowid where rowid = 7", [(7,)]), ("select b as z from t where z = 'X' collate nocase", [("x",)])):
            with self.subTest(text=text):
                self.assertEqual(self.rows(text), wanted)
        self.refuses(ERROR, "select 1 as z, z", "select 1 as z limit z", "select z as y, 1 as z from t where y", "select 1 as z from t where t.z",
                     "select count(*) as n from t where n", "select count(*) as n from t group by n", "select d as z from t join t q on z join u",
                     "select sum(c) as s from t order by sum(s)", "select 7 as rowid from t, u where rowid")

    def test_columns_where_there_are_none(self):
        self.refuses(ERROR, "insert into t values(a, 1, 2)", "select 1 from t limit a", "select 1 from t limit 1 offset a",
                     "create table v(a default (b))", "create table v(a default (a))", "insert into t(a) values(rowid)")

    def test_tables_functions_and_collations_that_are_not_there(self):
        self.refuses(ERROR, "select 1 from v", "insert into v default values", "update v set a = 1", "delete from v", "drop table v",
                     "insert into t(x) values(1)", "update t set x = 1", "select f(1)", "select 'a' collate f", "select a from t order by a collate f",
                     "create table v(a collate f)", "create table v(a check (f(a)))", "create table v(a check (a = 'x' collate f))",
                     "create table v(a default (f()))", "select 1 order by 1 collate f", "select 1 as z order by z collate f",
                     "select a from t group by 1 collate f", "create table v(a, unique(b))", "create table v(a, primary key(a, rowid))",
                     "create table v(a check (b))", "create table v(a, check (q.a))", "select v.* from t", "select t.* from t, u t", "select *",
                     "insert into t select a from sqlite_master", "select 1 from t join nosuch")

    def test_collations_and_functions_of_a_table_that_went(self):
        self.db.create_function("f", 1, lambda x: 1)
        self.db.create_function("g", 0, lambda: 7)
        self.db.create_collation("k", lambda x, y: (x > y) - (x < y))
        self.run_all("create table fa(a check (f(a)))", "create table ga(a, b default (g()), c not null default (g()))",
                     "create table ka(a collate k)", "create table kb(a check (a = 'q' collate k or 1))")
        self.db.create_function("f", 1, None)
        self.db.create_function("g", 0, None)
        self.db.create_collation("k", None)
        for name in ("fa", "ka", "kb"):
            self.refuses(ERROR, f"select 1 from {name}", f"insert into {name} values(1)", f"update {name} set a = 1",
                         f"delete from {name}", f"select 1 from t left join {name} on 0", f"insert into t select a, 1, 1 from {name}")
            self.run_all(f"create table if not exists {name}(x)", f"drop table {name}")
        self.run_all("select * from ga", "insert into ga values(1, 2, 3)", "insert into ga(b, c) values(1, 2)", "update ga set a = 1, c = 5",
                     "delete from ga", "update or replace ga set a = 1, b = null")
        self.run_all("update or replace ga set rowid = 5")
        self.refuses(ERROR, "insert into ga(a, c) values(1, 2)", "insert into ga(a, b) values(1, 2)", "insert into ga default values",
                     "insert or replace into ga values(1, 2, 3)", "replace into ga(b, c) values(1, 2)", "update or replace ga set c = 1")

    def test_wrong_numbers_of_values(self):
        self.refuses(ERROR, "insert into t values(1)", "insert into t values(1, 2, 3, 4)", "insert into t(a) values(1, 2)",
                     "insert into t(a, a) values(1)", "insert into t values(9, 2, 3), (8)", "insert into t select 1", "insert into u select * from t",
                     "insert into t(b) select 1, 2")
        self.assertEqual(self.rows("select count(*) from t"), [(1,)])

    def test_aggregates_at_wrong_places(self):
        self.refuses(ERROR, "select 1 from t where count(*)", "select 1 from t group by count(*)", "select 1 from t join u on sum(c)",
                     "select sum(max(c)) from t", "select a from t order by count(*)", "insert into t values(count(*), 1, 2)",
                     "update t set b = max(b)", "delete from t where min(a)", "select a from t limit count(*)", "create table v(a check (max(a)))",
                     "create table v(a default (count(*)))", "select count(*) from t group by 1", "select 1 from t having 1",
                     "select a from t having count(*) > 0", "select count(count(*)) from t", "select abs(a) from t having 1",
                     "select 1 as n, max(b) as m from t group by m", "select max(b) from t group by 1")
        for text in ("select count(*) from t having 1", "select a from t group by a having count(*)", "select a from t group by a order by count(*)",
                     "select max(a) from t order by sum(a)", "select sum(c) as s from t order by s", "select sum(c) as s from t order by 1",
                     "select sum(c) as s, 1 from t having s", "select abs(max(a)) from t"):
            self.db.execute(text)

    def test_integers_alone(self):
        self.refuses(ERROR, "select a from t order by 2", "select a from t order by 0", "select a from t order by -1", "select a from t group by 3",
                     "select a from t order by (2)", "select a from t order by + 2 collate nocase", "select a from t group by - 1",
                     "select t.* from t order by 4", "select 1 order by -9223372036854775808")
        for text in ("select a from t order by 1", "select a from t order by - -1", "select a from t order by +(1) collate nocase", "select t.* from t order by 3",
                     "select a from t group by (1)", "select a from t order by 2 + 0", "select a from t where 99", "select a from t order by '9'"):
            self.db.execute(text)

    def test_tables_that_cannot_be_created(self):
        self.refuses(ERROR, "create table t(x)", "create table T(x)", "create table sqlite_x(a)", "create table SQLite_(a)", "create table v(a, A)",
                     "create table if not exists sqlite_x(a)", "create table v(a primary key, b primary key)",
                     "create table v(a primary key, primary key(a))", "create table v(a, primary key(a), primary key(a))",
                     "create table v(a int primary key autoincrement)", "create table v(a primary key autoincrement)",
                     "create table v(a integer(5) primary key autoincrement)", "create table v(a check (?))", "create table v(a default (?))",
                     "create table v(a check (a > :x))")
        self.run_all("create table v(a INTEGER primary key autoincrement)", "create table sqlitex(a)")

    def test_if_not_exists_and_if_exists(self):
        self.run_all("create table if not exists t(x, x, y collate nosuch check (f(1)) default (b), primary key(q), check (max(1)))",
                     "drop table if exists nosuch", "create table if not exists v(a)", "drop table if exists V")
        self.refuses(ERROR, "create table if not exists t", "create table if not exists t(", "create table if not exists t()",
                     "create table if not exists t(a check (?))", "create table if not exists t(a) b", "drop table if exists", "select 1 from v",
                     "create table if not exists t(unique(a))")
        self.refused(PROGRAMMING, self.db.execute, "create table if not exists t(a); select 1")

    def test_a_statement_is_prepared_ahead_of_everything_else(self):
        db = self.connect("")
        self.refused(ERROR, db.execute, "insert into t values(1)", ("x", "y"))
        self.assertFalse(db.in_transaction)
        self.refused(ERROR, db.execute, "insert into nosuch values(?)", object())
        self.assertEqual((db.lock, db.in_transaction), (0, False))


if __name__ == "__main__":
    unittest.main()
