import unittest

from cursorhouse.errors import InterfaceError
from cursorhouse.rows import Row


class RowTest(unittest.TestCase):
    """Point 62."""

    def setUp(self):
        self.row = Row(["id", "Name", "name", ""], [7, "x", None, [1]])

    def test_length_names_and_values(self):
        self.assertEqual(len(self.row), 4)
        self.assertEqual(self.row.keys(), ["id", "Name", "name", ""])
        self.assertEqual(self.row.cells(), (7, "x", None, [1]))
        self.assertIsInstance(self.row.cells(), tuple)
        self.assertIsInstance(self.row.keys(), list)
        self.assertEqual((len(Row([], [])), Row((), ()).keys(), Row((), ()).cells()), (0, [], ()))

    def test_parameters_by_keyword(self):
        row = Row(cells=(1,), names=("a",))
        self.assertEqual((row.keys(), row.cells(), row.item(key="A")), (["a"], (1,), 1))

    def test_item_by_index(self):
        self.assertEqual([self.row.item(at) for at in range(4)], [7, "x", None, [1]])
        self.assertEqual([self.row.item(-at) for at in range(1, 5)], [[1], None, "x", 7])

    def test_item_beyond_the_ends(self):
        for at in (4, 5, -5, -6, 10 ** 30, -(10 ** 30)):
            self.assertRaises(InterfaceError, self.row.item, at)
        self.assertRaises(InterfaceError, Row([], []).item, 0)
        self.assertRaises(InterfaceError, Row([], []).item, -1)

    def test_item_by_name_in_letters_of_either_case(self):
        self.assertEqual(self.row.item("id"), 7)
        self.assertEqual(self.row.item("ID"), 7)
        self.assertEqual(self.row.item("iD"), 7)
        self.assertEqual(self.row.item(""), [1])

    def test_of_two_columns_of_one_name_the_first_counts(self):
        for key in ("name", "Name", "NAME"):
            self.assertEqual(self.row.item(key), "x")

    def test_item_with_a_name_that_is_not_there(self):
        for key in ("nam", "names", " id", "0", "id "):
            self.assertRaises(InterfaceError, self.row.item, key)

    def test_item_with_other_keys(self):
        for key in (True, False, None, (0,), [0], {}, ("id",)):
            with self.assertRaises(InterfaceError) as caught:
                self.row.item(key)
            self.assertIsNone(caught.exception.sqlite_errorname)

    def test_equal_rows(self):
        self.assertEqual(self.row, Row(("id", "Name", "name", ""), (7, "x", None, [1])))
        self.assertEqual(Row(["a"], [1]), Row(["a"], [True]))
        self.assertFalse(Row(["a"], [1]) != Row(["a"], [1]))

    def test_rows_that_differ_in_one_part(self):
        row = Row(["a", "b"], [1, 2])
        for names, cells in ((["a", "B"], [1, 2]), (["a", "c"], [1, 2]), (["a", "b"], [1, 3]), (["a", "b"], [1, "2"]),
                             (["a"], [1]), (["b", "a"], [2, 1]), (["a", "b", "c"], [1, 2, 3]), (["a", "b"], [1, None])):
            self.assertFalse(row == Row(names, cells))
            self.assertTrue(row != Row(names, cells))

    def test_a_row_equals_nothing_else(self):
        row = Row(["a"], [1])
        for other in ((1,), [1], {"a": 1}, 1, None, "a", ["a"], (("a",), (1,))):
            self.assertFalse(row == other)
            self.assertFalse(other == row)
            self.assertTrue(row != other)

    def test_later_changes_to_what_was_passed_or_returned_have_no_effect(self):
        names, cells = ["a", "b"], [1, 2]
        row = Row(names, cells)
        names[0] = "z"
        cells.append(3)
        row.keys().append("c")
        row.keys()[0] = "q"
        self.assertEqual((row.keys(), row.cells(), len(row)), (["a", "b"], (1, 2), 2))


if __name__ == "__main__":
    unittest.main()
