import unittest

from weirlines import errors


class ErrorClasses(unittest.TestCase):
    def test_base_class(self):
        self.assertEqual(errors.WeirError.__bases__, (ValueError,))

    def test_direct_subclasses(self):
        for name in ("BadRow", "BadWeir", "BadOrder", "BadNumber", "Unlike", "NotFalling", "NoOrder"):
            self.assertEqual(getattr(errors, name).__bases__, (errors.WeirError,), name)

    def test_attributes(self):
        self.assertEqual(errors.BadWeir(3).number, 3)
        self.assertIsNone(errors.BadWeir(None).number)
        self.assertEqual(errors.BadOrder(0).place, 0)
        self.assertIsNone(errors.BadOrder(None).place)
        self.assertEqual(errors.Unlike("areas").what, "areas")
        self.assertEqual(errors.NotFalling(2).number, 2)
