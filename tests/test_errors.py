import unittest

from pathloom import errors

WITH_WHY = [errors.TreeError, errors.BadValue, errors.NotForm]
WITH_AT = [errors.NotDocument, errors.NotPath, errors.NotPattern]


class Errors(unittest.TestCase):
    def test_direct_base_classes(self):
        self.assertEqual(errors.TreeError.__bases__, (ValueError,))
        for name in ("BadValue", "NotDocument", "NotPath", "NotPattern", "NotForm", "NotPlain", "NotSheet",
                     "Failed", "TooLarge"):
            with self.subTest(name):
                self.assertEqual(getattr(errors, name).__bases__, (errors.TreeError,))

    def test_why(self):
        for kind in WITH_WHY:
            with self.subTest(kind.__name__):
                self.assertEqual(kind().why, "")
                self.assertEqual(kind("main").why, "main")
                self.assertEqual(kind(why="main").why, "main")

    def test_at(self):
        for kind in WITH_AT:
            with self.subTest(kind.__name__):
                self.assertEqual(kind(5).at, 5)
                self.assertEqual(kind(at=0).at, 0)
                self.assertRaises(TypeError, kind)

    def test_other_fields(self):
        self.assertEqual(errors.NotPlain((0, 1)).place, (0, 1))
        self.assertEqual(errors.NotPlain(place=()).place, ())
        error = errors.NotSheet(("", (0,)), "version")
        self.assertEqual((error.place, error.fault), (("", (0,)), "version"))
        error = errors.NotSheet(fault="text", place=("m", (1,)))
        self.assertEqual((error.place, error.fault), (("m", (1,)), "text"))
        self.assertEqual(errors.Failed("nodes").fault, "nodes")
        self.assertEqual(errors.Failed(fault="deep").fault, "deep")
        self.assertEqual(errors.TooLarge(4).most, 4)
        self.assertEqual(errors.TooLarge(most=5000).most, 5000)

    def test_arguments_that_must_be_there(self):
        for kind in (errors.NotPlain, errors.NotSheet, errors.Failed, errors.TooLarge):
            with self.subTest(kind.__name__):
                self.assertRaises(TypeError, kind)
        self.assertRaises(TypeError, errors.NotSheet, ())

    def test_each_has_why(self):
        made = [kind(1) for kind in WITH_AT]
        made += [errors.NotPlain(()), errors.NotSheet((), "text"), errors.Failed("x"), errors.TooLarge(1)]
        for error in made:
            with self.subTest(error.__class__.__name__):
                self.assertIsInstance(error.why, str)

    def test_defined_in_this_file(self):
        for kind in WITH_WHY + WITH_AT + [errors.NotPlain, errors.NotSheet, errors.Failed, errors.TooLarge]:
            self.assertEqual(kind.__module__, "pathloom.errors")


if __name__ == "__main__":
    unittest.main()
