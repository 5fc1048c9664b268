import copy
import pickle
import unittest

from bundlehouse import errors

AT_ROW = ("Twice", "NoPart", "NoName", "NotGiven", "Asks")
ALL = AT_ROW + ("NoRow", "Endless", "TooMany", "NoPlace", "NoMap")


def class_of(name):
    return getattr(errors, name)


def made():
    found = [class_of(name)("a", 3) for name in AT_ROW]
    found.append(errors.NoRow(5))
    found.append(errors.Endless((("a", "x"), ("b", "y"))))
    found.append(errors.TooMany(("a", "b")))
    found.append(errors.NoPlace())
    found.append(errors.NoMap())
    return found


class Classes(unittest.TestCase):
    def test_bundle_error_is_a_value_error(self):
        self.assertTrue(issubclass(errors.BundleError, ValueError))

    def test_there_are_ten(self):
        self.assertEqual(len(set(class_of(name) for name in ALL)), 10)

    def test_each_is_under_bundle_error(self):
        for name in ALL:
            with self.subTest(name):
                self.assertTrue(issubclass(class_of(name), errors.BundleError))
                self.assertTrue(issubclass(class_of(name), ValueError))
                self.assertIsNot(class_of(name), errors.BundleError)

    def test_none_is_under_another(self):
        for name in ALL:
            for other in ALL:
                if name != other:
                    with self.subTest(name=name, other=other):
                        self.assertFalse(issubclass(class_of(name), class_of(other)))


class Fields(unittest.TestCase):
    def test_part_and_row(self):
        for name in AT_ROW:
            for row in (0, 7, None):
                with self.subTest(name=name, row=row):
                    error = class_of(name)("a", row)
                    self.assertEqual((error.part, error.row), ("a", row))

    def test_number(self):
        self.assertEqual(errors.NoRow(4).number, 4)

    def test_way(self):
        way = (("a", "x"), ("b", "y"))
        self.assertEqual(errors.Endless(way).way, way)

    def test_parts(self):
        self.assertEqual(errors.TooMany(("a", "b")).parts, ("a", "b"))

    def test_endless_has_no_part_and_row(self):
        error = errors.Endless((("a", "x"), ("b", "y")))
        self.assertFalse(hasattr(error, "part"))
        self.assertFalse(hasattr(error, "row"))

    def test_each_object_has_its_own(self):
        one, other = errors.NoRow(1), errors.NoRow(2)
        self.assertEqual((one.number, other.number), (1, 2))

    def test_each_is_raised_and_taken_as_bundle_error(self):
        for error in made():
            with self.subTest(repr(error)):
                with self.assertRaises(errors.BundleError) as taken:
                    raise error
                self.assertIs(taken.exception, error)

    def test_a_copy_has_the_same_fields(self):
        for error in made():
            for twin in (copy.copy(error), pickle.loads(pickle.dumps(error))):
                with self.subTest(repr(error)):
                    self.assertIs(type(twin), type(error))
                    self.assertEqual(vars(twin), vars(error))


if __name__ == "__main__":
    unittest.main()
