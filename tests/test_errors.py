import unittest

from plain import REFUSALS
from tiewood import errors


class Errors(unittest.TestCase):
    def test_tie_error_stands_under_value_error(self):
        self.assertTrue(issubclass(errors.TieError, ValueError))

    def test_each_refusal_stands_under_tie_error(self):
        for name in REFUSALS:
            with self.subTest(name=name):
                refusal = getattr(errors, name)
                self.assertTrue(issubclass(refusal, errors.TieError))
                self.assertIsNot(refusal, errors.TieError)

    def test_no_refusal_stands_under_another(self):
        for name in REFUSALS:
            for other in REFUSALS:
                if name != other:
                    with self.subTest(name=name, other=other):
                        self.assertFalse(issubclass(getattr(errors, name), getattr(errors, other)))

    def test_each_is_raised_with_and_without_words_and_taken_by_its_name(self):
        for name in REFUSALS + ("TieError",):
            with self.subTest(name=name):
                refusal = getattr(errors, name)
                with self.assertRaises(refusal):
                    raise refusal("words")
                with self.assertRaises(errors.TieError):
                    raise refusal()


if __name__ == "__main__":
    unittest.main()
