import unittest

from weirlines import errors, planerrors


class ErrorClasses(unittest.TestCase):
    def test_base_class(self):
        self.assertEqual(errors.WeirError.__bases__, (ValueError,))

    def test_direct_subclasses(self):
        for name in ("BadRow", "BadWeir", "BadOrder", "BadNumber", "Unlike", "NotFalling", "NoOrder"):
            self.assertEqual(getattr(errors, name).__bases__, (errors.WeirError,), name)

    def test_attributes(self):
        self.assertEqual(errors.BadWeir(3).number, 3)
        self.assertIsNone(errors.BadWeir(None).number)
        self.assertEqual(errors.BadOrder(0).place, 0)
        self.assertIsNone(errors.BadOrder(None).place)
        self.assertEqual(errors.Unlike("areas").what, "areas")
        self.assertEqual(errors.NotFalling(2).number, 2)


class PlanErrorClasses(unittest.TestCase):
    def test_direct_subclasses(self):
        for name in ("BadProgram", "BadStart", "BadText", "NoName", "Claimed", "NothingDone", "Mixed"):
            self.assertEqual(getattr(planerrors, name).__bases__, (errors.WeirError,), name)

    def test_attributes(self):
        self.assertEqual(planerrors.BadProgram(3).place, 3)
        self.assertIsNone(planerrors.BadProgram(None).place)
        told = planerrors.BadText(2, 7)
        self.assertEqual((told.line, told.column), (2, 7))
        self.assertEqual(planerrors.NoName("a").name, "a")
        self.assertEqual(planerrors.Claimed(0).number, 0)
        self.assertIsInstance(planerrors.BadStart("so"), ValueError)
        self.assertIsInstance(planerrors.NothingDone(), ValueError)
        self.assertIsInstance(planerrors.Mixed(), ValueError)
