import unittest

from coinyard import errors
from coinyard.errors import BadPurse, BadSum, BadText, CoinError, Endless, NoOne, TooBig, TooMany

REFUSALS = [BadPurse, BadSum, Endless, NoOne, TooBig, TooMany, BadText]


class Errors(unittest.TestCase):
    def test_any_refusal_is_a_value_error(self):
        self.assertEqual(CoinError.__bases__, (ValueError,))

    def test_each_refusal_stands_right_under_coin_error(self):
        for refusal in REFUSALS:
            with self.subTest(refusal=refusal.__name__):
                self.assertEqual(refusal.__bases__, (CoinError,))
                self.assertTrue(issubclass(refusal, ValueError))

    def test_none_stands_under_another(self):
        for one in REFUSALS:
            for other in REFUSALS:
                if one.__name__ != other.__name__:
                    with self.subTest(one=one.__name__, other=other.__name__):
                        self.assertFalse(issubclass(one, other))

    def test_each_has_its_own_name(self):
        names = ["BadPurse", "BadSum", "Endless", "NoOne", "TooBig", "TooMany", "BadText"]
        self.assertEqual([refusal.__name__ for refusal in REFUSALS], names)
        self.assertEqual([getattr(errors, name) for name in names], REFUSALS)

    def test_each_is_raised_and_taken_by_its_class(self):
        for refusal in REFUSALS:
            for taken_as in [refusal, CoinError, ValueError]:
                with self.subTest(refusal=refusal.__name__, taken_as=taken_as.__name__):
                    with self.assertRaises(taken_as):
                        raise refusal("words")


if __name__ == "__main__":
    unittest.main()
