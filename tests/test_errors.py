import unittest

from cardplaces import errors

REFUSALS = (errors.NoPlace, errors.NoPane, errors.Taken, errors.Round, errors.NotAsked, errors.NoText)


class ErrorsTest(unittest.TestCase):
    def test_book_error_is_a_value_error(self):
        self.assertTrue(issubclass(errors.BookError, ValueError))
        self.assertIsNot(errors.BookError, ValueError)

    def test_all_six_are_below_book_error(self):
        for refusal in REFUSALS:
            self.assertTrue(issubclass(refusal, errors.BookError), refusal)
            self.assertIsNot(refusal, errors.BookError)

    def test_none_is_below_another(self):
        for refusal in REFUSALS:
            above = [other for other in REFUSALS if issubclass(refusal, other)]
            self.assertEqual(above, [refusal])

    def test_each_bears_its_own_name(self):
        names = [refusal.__name__ for refusal in REFUSALS]
        self.assertEqual(names, ["NoPlace", "NoPane", "Taken", "Round", "NotAsked", "NoText"])


if __name__ == "__main__":
    unittest.main()
