"""Points 1 and 23: the classes of errors."""

import unittest

from tablestack import errors

NAMES = (
    "TextError", "NameFault", "KindFault", "ConstraintFault", "ConflictFault", "StateFault", "PageFault", "RecordFault",
    "LogFault", "DiskFault", "TreeFault", "PlanFault",
)


class ErrorsTest(unittest.TestCase):
    def test_all_stand_under_table_error(self):
        for name in NAMES:
            self.assertTrue(issubclass(getattr(errors, name), errors.TableError), name)
            self.assertEqual(getattr(errors, name).__module__, "tablestack.errors")
        self.assertTrue(issubclass(errors.TableError, ValueError))

    def test_none_stands_under_another(self):
        for one in NAMES:
            for other in NAMES:
                if one != other:
                    self.assertFalse(issubclass(getattr(errors, one), getattr(errors, other)), (one, other))

    def test_they_are_raised_and_caught_by_their_base(self):
        for name in NAMES:
            with self.assertRaises(errors.TableError):
                raise getattr(errors, name)("why")


if __name__ == "__main__":
    unittest.main()
