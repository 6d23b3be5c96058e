import unittest

from foldcurve.errors import BadCrease, BadFolds, BadSteps, BadTurns, FoldError


class Classes(unittest.TestCase):
    def test_fold_error_stands_straight_under_value_error(self):
        self.assertEqual(FoldError.__bases__, (ValueError,))

    def test_each_refusal_stands_straight_under_fold_error(self):
        for refusal in (BadFolds, BadCrease, BadSteps, BadTurns):
            with self.subTest(refusal=refusal.__name__):
                self.assertEqual(refusal.__bases__, (FoldError,))

    def test_names_and_module(self):
        for name, refusal in (
            ("FoldError", FoldError),
            ("BadFolds", BadFolds),
            ("BadCrease", BadCrease),
            ("BadSteps", BadSteps),
            ("BadTurns", BadTurns),
        ):
            with self.subTest(name=name):
                self.assertEqual((refusal.__module__, refusal.__name__), ("foldcurve.errors", name))

    def test_no_refusal_takes_another_ones_place(self):
        refusals = (BadFolds, BadCrease, BadSteps, BadTurns)
        for one in refusals:
            for other in refusals:
                with self.subTest(one=one.__name__, other=other.__name__):
                    self.assertEqual(issubclass(one, other), one is other)


if __name__ == "__main__":
    unittest.main()
