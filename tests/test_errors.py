import unittest

from eachplace.errors import EachError, NoRow, NoText, TooWide

REFUSALS = (NoText, TooWide, NoRow)


class ErrorsTest(unittest.TestCase):
    def test_each_error_is_a_value_error(self):
        self.assertEqual(EachError.__bases__, (ValueError,))

    def test_refusals_stand_under_each_error_alone(self):
        for refusal in REFUSALS:
            self.assertEqual(refusal.__bases__, (EachError,))

    def test_no_refusal_stands_under_another_one(self):
        for one in REFUSALS:
            for other in REFUSALS:
                self.assertEqual(issubclass(one, other), one is other)

    def test_each_is_made_with_a_text(self):
        for refusal in (EachError, *REFUSALS):
            for text in ("x", "a text of more signs", "~" * 4000):
                with self.assertRaises(refusal) as caught:
                    raise refusal(text)
                self.assertEqual(str(caught.exception), text)
                self.assertIsInstance(caught.exception, ValueError)

    def test_a_refusal_is_not_caught_as_another_one(self):
        for one in REFUSALS:
            for other in REFUSALS:
                if one is not other:
                    self.assertNotIsInstance(one("x"), other)


if __name__ == "__main__":
    unittest.main()
