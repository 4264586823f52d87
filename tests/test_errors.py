import unittest

from spotheights import errors

PLAIN = [
    "ZeroDivisor", "WrongDimension", "BadMonomial", "BadIndex", "WrongCount", "TooLarge", "TooWide", "ZeroOperator",
    "Singular", "NotPlain", "NotDegree", "BadOrder", "BadName", "UsedName", "UnknownName", "NothingToUndo",
    "NothingToRedo",
]


class ErrorClasses(unittest.TestCase):

    def test_the_base_class_is_a_value_error(self):
        self.assertEqual(errors.SpotError.__bases__, (ValueError,))

    def test_the_other_classes_have_the_bases_that_are_named(self):
        for name in PLAIN + ["Dependent", "NotClosed", "NoFit", "NotTold", "BadText"]:
            with self.subTest(name):
                self.assertEqual(getattr(errors, name).__bases__, (errors.SpotError,))
        for name in ["BadNumber", "BadPolynomial", "BadQuestion", "BadLine"]:
            with self.subTest(name):
                self.assertEqual(getattr(errors, name).__bases__, (errors.BadText,))

    def test_the_plain_ones_can_be_raised(self):
        for name in PLAIN:
            with self.subTest(name), self.assertRaises(errors.SpotError):
                raise getattr(errors, name)("why")

    def test_dependent_has_a_copy_of_its_weights(self):
        weights = [1, 2]
        error = errors.Dependent(weights)
        weights.append(3)
        self.assertEqual(error.weights, [1, 2])

    def test_certificates_and_names(self):
        self.assertEqual(errors.NotClosed("c").certificate, "c")
        self.assertIsNone(errors.NotClosed(None).certificate)
        self.assertEqual(errors.NoFit("c").certificate, "c")
        self.assertEqual(errors.NotTold("a1").name, "a1")

    def test_texts(self):
        for name in ["BadText", "BadNumber", "BadPolynomial", "BadQuestion"]:
            with self.subTest(name):
                self.assertEqual(getattr(errors, name)("2/4 ").text, "2/4 ")

    def test_lines(self):
        error = errors.BadLine("put", 7, "text")
        self.assertEqual((error.text, error.number, error.code), ("put", 7, "text"))

    def test_each_error_has_a_wording(self):
        for error in [errors.Dependent([]), errors.NotClosed(None), errors.NoFit(None), errors.NotTold("a"),
                      errors.BadNumber("x" * 99999), errors.BadLine("put", 1, "text")]:
            with self.subTest(error.__class__.__name__):
                self.assertTrue(0 < len(str(error)) < 200)


if __name__ == "__main__":
    unittest.main()
