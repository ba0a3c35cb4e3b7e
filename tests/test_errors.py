"""The error classes: [5]."""

import unittest

from breadcrumbs import errors

NAMES = ["InvalidSiteError", "InvalidPageError", "InvalidPagesError", "InvalidTrailError", "InvalidVisitsError",
         "InvalidEffectError", "InvalidLengthsError", "InvalidNumberError", "InvalidFormatError", "EmptyHistoryError"]


class ErrorsTest(unittest.TestCase):
    def test_base(self):
        self.assertEqual(errors.BreadcrumbsError.__bases__, (ValueError,))

    def test_direct_subclasses(self):
        for name in NAMES:
            self.assertEqual(getattr(errors, name).__bases__, (errors.BreadcrumbsError,), name)

    def test_no_other_errors(self):
        found = [name for name, value in vars(errors).items() if isinstance(value, type)]
        self.assertEqual(sorted(found), sorted(["BreadcrumbsError", *NAMES]))

    def test_defined_here(self):
        for name in ["BreadcrumbsError", *NAMES]:
            self.assertEqual(getattr(errors, name).__module__, "breadcrumbs.errors")
            self.assertEqual(getattr(errors, name).__name__, name)

    def test_constructed_with_one_string(self):
        for name in ["BreadcrumbsError", *NAMES]:
            self.assertEqual(str(getattr(errors, name)("so it is")), "so it is")


if __name__ == "__main__":
    unittest.main()
