import unittest

from language_rules import violations


class LanguageTest(unittest.TestCase):
    def test_the_package_keeps_to_the_subset(self):
        self.assertEqual(violations(), [])


if __name__ == "__main__":
    unittest.main()
