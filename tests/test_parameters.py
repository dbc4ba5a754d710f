import unittest

from support import DATA, PROGRAMMING, DatabaseTest


class BindingTest(DatabaseTest):
    """Point 58."""

    def first(self, sql, parameters):
        return self.rows(sql, parameters)[0]

    def test_numbers(self):
        for sql, given, wanted in (
                ("select ?, ?", (1, 2), (1, 2)), ("select ?2, ?1", (1, 2), (2, 1)), ("select ?2, ?", (1, 2, 3), (2, 3)), ("select ?1, ?1, ?", [7, 8], (7, 7, 8)),
                ("select ?, ?1, ?", (1, 2), (1, 1, 2)), ("select ?3", (1, 2, 3), (3,)), ("select 1", (), (1,)), ("select '?', ?", ("x",), ("?", "x")),
                ("select ? /* ? */ -- ?", (1,), (1,)), ("select ?99", tuple(range(99)), (98,)), ("select ? limit ? offset ?", (1, 2, 0), (1,))):
            self.assertEqual(self.first(sql, given), wanted, sql)

    def test_a_wrong_number_of_elements(self):
        for sql, given in (("select ?", ()), ("select ?", (1, 2)), ("select 1", (1,)), ("select ?3", (1,)), ("select ?2", (1, 2, 3)), ("select ?, ?1", (1, 2)),
                           ("select ?, ?", [1])):
            self.refused(PROGRAMMING, self.db.execute, sql, given)
        self.refused(PROGRAMMING, self.db.execute, "select ?")

    def test_a_sequence_cannot_fill_names(self):
        for sql in ("select :a", "select @a", "select $a", "select ?1, :a"):
            self.refused(PROGRAMMING, self.db.execute, sql, (1,))
            self.refused(PROGRAMMING, self.db.execute, sql, [1, 2])

    def test_names(self):
        for sql, given, wanted in (
                ("select :a, @a, $a, :a", {"a": 1}, (1, 1, 1, 1)), ("select :a, :b", {"b": 2, "a": 1, "c": 3}, (1, 2)), ("select ?1, ?2", {"1": "x", "2": "y"}, ("x", "y")),
                ("select :1, ?2", {"1": 5, "2": 6}, (5, 6)), ("select ?, ?1", {"1": 4}, (4, 4)), ("select ?1, :a", {"1": 1, "a": 2}, (1, 2)),
                ("select :a, ?1", {"a": 3}, (3, 3)), ("select ?1, :a, ?2", {"1": 1, "a": 2}, (1, 2, 2)), ("select :A, :a", {"A": 1, "a": 2}, (1, 2)),
                ("select 1", {}, (1,)), ("select 1", {"a": object()}, (1,)), ("select ?2, ?1", {"1": 1, "2": 2}, (2, 1))):
            self.assertEqual(self.first(sql, given), wanted, sql)

    def test_names_that_are_not_there(self):
        for sql, given in (("select :a", {}), ("select :a", {"A": 1}), ("select :a", {":a": 1}), ("select ?", {"1": 1}), ("select ?", {}), ("select ?2", {"2": 1}),
                           ("select ?1, ?", {"1": 1, "2": 2}), ("select :a, :b", {"a": 1}), ("select ?1", {1: 1}), ("select :a, ?1", {"1": 3})):
            self.refused(PROGRAMMING, self.db.execute, sql, given)

    def test_other_objects(self):
        for given in (None, 1, "a", True, range(1), object(), "?", 1.5):
            self.refused(PROGRAMMING, self.db.execute, "select ?", given)
            self.refused(PROGRAMMING, self.db.execute, "select 1", given)

    def test_values_are_adapted_and_checked_one_after_another(self):
        told = []
        self.library.register_adapter("int", lambda value: told.append(value) or value)
        self.refused(PROGRAMMING, self.db.execute, "select ?, ?, ?, ?", (1, 2, [], 3))
        self.assertEqual(told, [1, 2])
        self.refused(DATA, self.db.execute, "select ?, ?, ?", (4, 2 ** 63, []))
        self.assertEqual(told, [1, 2, 4, 2 ** 63])
        self.refused(PROGRAMMING, self.db.execute, "select ?2, ?1", (5, 6, 7))
        self.assertEqual(len(told), 4)
        self.db.execute("select ?3, ?1", (8, 9, 10))
        self.assertEqual(told[4:], [8, 9, 10])
        self.db.execute("select :b, :a", {"a": 1, "b": 2})
        self.assertEqual(told[7:], [2, 1])
        self.refused(PROGRAMMING, self.db.execute, "select :b, :c", {"b": 2})
        self.assertEqual(len(told), 9)


class AdaptingTest(DatabaseTest):
    """Points 59 and 60."""

    def bound(self, value):
        found = self.value("?", (value,))
        return found, type(found)

    def test_values(self):
        for given, wanted in ((None, None), (5, 5), ("x", "x"), ("", ""), (True, 1), (False, 0), (2 ** 63 - 1, 2 ** 63 - 1), (-2 ** 63, -2 ** 63), ("a\nb", "a\nb")):
            self.assertEqual(self.bound(given), (wanted, type(wanted)))

    def test_what_is_no_value(self):
        for given in (2 ** 63, -2 ** 63 - 1, 10 ** 50):
            self.refused(DATA, self.db.execute, "select ?", (given,))
        for given in ([], (1,), {}, {"a": 1}, 1.0, b"x", object(), range(1)):
            self.refused(PROGRAMMING, self.db.execute, "select ?", (given,))

    def test_adapters(self):
        library = self.library
        for kind, given, result, wanted in (("int", 5, "five", "five"), ("str", "a", 7, 7), ("bool", True, "yes", "yes"), ("list", [1], 1, 1), ("tuple", (), None, None),
                                            ("dict", {}, True, 1)):
            told = []
            library.register_adapter(kind, lambda value: told.append(value) or result)
            self.assertEqual(self.bound(given), (wanted, type(wanted)))
            self.assertEqual((told, type(told[0])), ([given], type(given)))
            library.register_adapter(kind, None)
            library.register_adapter(kind, None)

    def test_kinds_are_apart(self):
        self.library.register_adapter("int", lambda value: "int")
        self.assertEqual([self.bound(given)[0] for given in (1, True, None, "1")], ["int", 1, None, "1"])
        self.library.register_adapter("bool", lambda value: "bool")
        self.library.register_adapter("tuple", lambda value: "tuple")
        self.assertEqual([self.bound(given)[0] for given in (1, True, ())], ["int", "bool", "tuple"])
        self.refused(PROGRAMMING, self.bound, [])

    def test_a_result_is_not_adapted_again(self):
        self.library.register_adapter("list", lambda value: len(value))
        self.library.register_adapter("int", lambda value: value + 100)
        self.assertEqual(self.bound([1, 2])[0], 2)
        self.library.register_adapter("dict", lambda value: [1])
        self.refused(PROGRAMMING, self.bound, {})
        self.library.register_adapter("dict", lambda value: 2 ** 64)
        self.refused(DATA, self.bound, {})

    def test_a_later_adapter_takes_the_place(self):
        self.library.register_adapter(kind="list", function=lambda value: 1)
        self.library.register_adapter("list", lambda value: 2)
        self.assertEqual(self.bound([])[0], 2)
        self.assertEqual(self.connect().execute("select ?", ([],)).fetchone(), (2,))

    def test_what_an_adapter_raises(self):
        def fail(value):
            raise LookupError(value)
        self.library.register_adapter("list", fail)
        self.assertRaises(LookupError, self.db.execute, "select ?", ([],))
        self.assertEqual(self.db.lock, 0)

    def test_other_kinds(self):
        for kind in ("float", "INT", "", None, 5, [], ("int",), "NoneType", "none"):
            self.refused(PROGRAMMING, self.library.register_adapter, kind, None)


class ConvertingTest(DatabaseTest):
    """Point 61."""

    def setUp(self):
        super().setUp()
        self.run_all("create table t(a point, b my kind(3, 4), c, d KIND(5), e integer primary key)", "insert into t values(1, 'x', 2, null, 9)")
        self.told = []
        for name in ("Point", "my", "kind", "integer", "x y"):
            self.library.register_converter(name, self.teller(name))

    def teller(self, name):
        def tell(text):
            self.told.append((name, text))
            return [name, text]
        return tell

    def found(self, sql, detect_types):
        self.told.clear()
        cursor = self.library.connect("db", detect_types=detect_types).execute(sql)
        names = [column[0] for column in cursor.description]
        return names, cursor.fetchall()

    def test_by_declared_kinds(self):
        names, rows = self.found("select a, (b), c, d, e, rowid, a + 0, + a, a collate nocase from t", 1)
        self.assertEqual(rows, [(["Point", "1"], ["my", "x"], 2, None, ["integer", "9"], ["integer", "9"], 1, 1, 1)])
        self.assertEqual(self.told, [("Point", "1"), ("my", "x"), ("integer", "9"), ("integer", "9")])
        self.assertEqual(self.found("select * from t", 1)[1], [(["Point", "1"], ["my", "x"], 2, None, ["integer", "9"])])
        self.assertEqual(self.found("select t.a as z, ((rowid)) from t", 1)[1], [(["Point", "1"], ["integer", "9"])])
        self.assertEqual(self.found("select max(a), case when 1 then a end from t", 1)[1], [(1, 1)])

    def test_a_declared_kind_ends_before_a_bracket_or_a_space(self):
        self.run_all("create table u(a KIND(5), b kind (6), c my kind(3), d kind\n(7))", "insert into u values(1, 2, 3, 4)")
        self.assertEqual(self.found("select * from u", 1)[1], [(["kind", "1"], ["kind", "2"], ["my", "3"], 4)])

    def test_by_names(self):
        names, rows = self.found("select a as \"a [kind]\", 5 as \"q[x y]z\", 6 as \"[POINT]\", 7 as \"n [nosuch]\", a from t", 2)
        self.assertEqual((names, rows), (["a", "q", "", "n", "a"], [(["kind", "1"], ["x y", "5"], ["Point", "6"], 7, 1)]))

    def test_the_brackets_in_a_name(self):
        for name, converter, seen in (("a]b[kind]", "kind", "a]b"), ("a[b[kind]]", "kind", "a"), ("a[kind]b[my]", "kind", "a"), ("a  [kind]", "kind", "a "),
                                      ("a [kind", None, "a"), ("a [kindx", None, "a"), ("kind]", None, "kind]"), ("kindx", None, "kindx"), ("a][", None, "a]"), ("a [ kind]", None, "a"), ("a\n[kind]", "kind", "a\n"),
                                      ("[kind]", "kind", ""), (" [kind]", "kind", "")):
            names, rows = self.found(f"select 5 as \"{name}\"", 2)
            self.assertEqual((names, rows), ([seen], [(5,) if converter is None else ([converter, "5"],)]), name)

    def test_the_name_may_be_the_text_of_the_expression(self):
        self.assertEqual(self.found("select 'x[kind]'", 2), (["'x"], [(["kind", "x[kind]"],)]))

    def test_both(self):
        names, rows = self.found("select a as \"p [kind]\", a as \"p [nosuch]\", c as \"q [nosuch]\", a from t", 3)
        self.assertEqual((names, rows), (["p", "p", "q", "a"], [(["kind", "1"], ["Point", "1"], 2, ["Point", "1"])]))
        names, rows = self.found("select a as \"p [kind]\" from t", 1)
        self.assertEqual((names, rows), (["p [kind]"], [(["Point", "1"],)]))

    def test_neither(self):
        self.assertEqual(self.found("select a as \"p [kind]\", b from t", 0), (["p [kind]", "b"], [(1, "x")]))
        self.assertEqual(self.told, [])

    def test_row_by_row_from_the_left(self):
        self.run_all("insert into t values(2, 'y', 1, 1, 10)")
        self.found("select b, a from t", 1)
        self.assertEqual(self.told, [("my", "x"), ("Point", "1"), ("my", "y"), ("Point", "2")])
        self.found("select a from t limit 0", 1)
        self.assertEqual(self.told, [])

    def test_a_column_without_a_declared_kind(self):
        self.library.register_converter("", self.teller(""))
        self.assertEqual(self.found("select c from t", 1)[1], [(2,)])
        self.assertEqual(self.library.connect("db").execute("select a from t").fetchall(), [(1,)])

    def test_null_is_not_converted(self):
        self.assertEqual(self.found("select d, null as \"x [kind]\" from t", 3)[1], [(None, None)])
        self.assertEqual(self.told, [])

    def test_not_within_an_insert(self):
        db = self.library.connect("db", detect_types=3)
        db.execute("create table u(a point)")
        db.execute("insert into u select a from t")
        self.assertEqual((self.told, db.execute("select a + 0 from u").fetchall()), ([], [(1,)]))

    def test_what_a_converter_raises(self):
        def fail(text):
            raise LookupError(text)
        self.library.register_converter("KIND", fail)
        db = self.library.connect("db", detect_types=2)
        cursor = db.execute("select 1")
        self.assertRaises(LookupError, cursor.execute, "select a as \"a [kind]\" from t")
        self.assertEqual((cursor.description, cursor.fetchall(), cursor.lastrowid, db.lock), (None, [], 0, 0))

    def test_removed_and_replaced_converters(self):
        self.library.register_converter("POINT", None)
        self.library.register_converter("nosuch", None)
        self.assertEqual(self.found("select a from t", 1)[1], [(1,)])
        self.library.register_converter(name="pOiNt", function=lambda text: None)
        self.assertEqual(self.found("select a from t", 1)[1], [(None,)])

    def test_named_rows_have_the_names_of_the_description(self):
        db = self.library.connect("db", detect_types=2)
        db.set_row_factory("Row")
        self.assertEqual(db.execute("select 5 as \"q [kind]\", 6 as r").fetchone().keys(), ["q", "r"])


if __name__ == "__main__":
    unittest.main()
