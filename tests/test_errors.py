import unittest

from cursorhouse import errors

ABOVE = {
    "Error": ["Error"],
    "InterfaceError": ["InterfaceError", "Error"],
    "DatabaseError": ["DatabaseError", "Error"],
    "DataError": ["DataError", "DatabaseError", "Error"],
    "OperationalError": ["OperationalError", "DatabaseError", "Error"],
    "IntegrityError": ["IntegrityError", "DatabaseError", "Error"],
    "InternalError": ["InternalError", "DatabaseError", "Error"],
    "ProgrammingError": ["ProgrammingError", "DatabaseError", "Error"],
    "NotSupportedError": ["NotSupportedError", "DatabaseError", "Error"],
}


def named(name):
    return getattr(errors, name)


class ErrorsTest(unittest.TestCase):
    """Point 6."""

    def test_each_class_is_of_those_above_it_and_of_no_other(self):
        for name, above in ABOVE.items():
            wanted = [named(other) for other in above] + [Exception, BaseException, object]
            self.assertEqual(list(named(name).__mro__), wanted)
            for other in ABOVE:
                self.assertEqual(issubclass(named(name), named(other)), other in above, (name, other))

    def test_the_name_may_be_any_object(self):
        given = [1, "two", None, ("x", True)]
        for name in ABOVE:
            for told in ("SQLITE_BUSY", "", None, 0, 5, False, True, given, (given,), {"k": [1]}):
                self.assertIs(named(name)(told).sqlite_errorname, told)
                self.assertIs(named(name)(sqlite_errorname=told).sqlite_errorname, told)

    def test_the_name_is_none_if_it_is_left_out(self):
        for name in ABOVE:
            self.assertIsNone(named(name)().sqlite_errorname)

    def test_other_arguments_are_refused(self):
        for name in ABOVE:
            self.assertRaises(TypeError, named(name), "a", "b")
            self.assertRaises(TypeError, named(name), errorname="a")

    def test_raised_each_is_caught_as_what_it_is(self):
        for name, above in ABOVE.items():
            for other in ABOVE:
                caught = None
                try:
                    try:
                        raise named(name)("SQLITE_X")
                    except named(other) as error:
                        caught = error
                except errors.Error as error:
                    self.assertNotIn(other, above)
                    self.assertEqual(error.sqlite_errorname, "SQLITE_X")
                self.assertEqual(caught is not None, other in above)

    def test_none_is_one_of_pythons_own_errors(self):
        for name in ABOVE:
            for own in (ValueError, TypeError, LookupError, ArithmeticError, RuntimeError, OSError, AttributeError):
                self.assertFalse(issubclass(named(name), own))

    def test_the_attribute_can_be_set_for_each_object_alone(self):
        one, other = errors.Error("a"), errors.Error("b")
        one.sqlite_errorname = "c"
        self.assertEqual((one.sqlite_errorname, other.sqlite_errorname), ("c", "b"))
        self.assertFalse(hasattr(errors.Error, "sqlite_errorname"))


if __name__ == "__main__":
    unittest.main()
