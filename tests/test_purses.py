import unittest
from math import gcd

from coinyard.errors import BadPurse
from coinyard.purses import checked, divisor_of, least_purse, needless
from tests.samples import (
    EDGE_PURSES, NOT_PURSES, made_up_to, needless_the_long_way, scattered_purses, small_purses,
)

FUNCTIONS = [checked, divisor_of, needless, least_purse]


class Refusals(unittest.TestCase):
    def test_what_is_no_purse_is_refused(self):
        for function in FUNCTIONS:
            for place, thing in enumerate(NOT_PURSES):
                with self.subTest(function=function.__name__, place=place):
                    with self.assertRaises(BadPurse) as caught:
                        function(thing)
                    self.assertIs(type(caught.exception), BadPurse)

    def test_what_is_refused_is_not_changed(self):
        for function in FUNCTIONS:
            for thing, copy in [([5, 3, 3], [5, 3, 3]), ({5: 3}, {5: 3}), (([3],), ([3],)), ({5, 3}, {5, 3})]:
                with self.subTest(function=function.__name__, thing=copy):
                    with self.assertRaises(BadPurse):
                        function(thing)
                    self.assertEqual(thing, copy)

    def test_every_purse_is_taken(self):
        for function in FUNCTIONS:
            for purse in EDGE_PURSES + small_purses(5) + [(coin,) for coin in range(1, 401)]:
                with self.subTest(function=function.__name__, purse=purse):
                    function(purse)


class Checked(unittest.TestCase):
    def test_the_purse_is_told(self):
        for purse in EDGE_PURSES + [(3, 5), (6, 9, 20), (2, 4, 6)]:
            with self.subTest(purse=purse):
                self.assertEqual(checked(purse), purse)
                self.assertIsInstance(checked(purse), tuple)


class Divisor(unittest.TestCase):
    def test_told_ones(self):
        told = [
            ((1,), 1), ((7,), 7), ((400,), 400), ((1, 400), 1), ((6, 9), 3), ((4, 6, 10), 2), ((6, 10, 15), 1),
            ((399, 400), 1), ((200, 400), 200), (tuple(range(10, 401, 10)), 10), ((12, 18, 20), 2),
        ]
        for purse, divisor in told:
            with self.subTest(purse=purse):
                self.assertEqual(divisor_of(purse), divisor)

    def test_as_the_long_way(self):
        for purse in EDGE_PURSES + scattered_purses() + small_purses(8):
            with self.subTest(purse=purse):
                self.assertEqual(divisor_of(purse), gcd(*purse))


class Needless(unittest.TestCase):
    def test_told_ones(self):
        told = [
            ((1,), []), ((400,), []), ((1, 400), [400]), ((399, 400), []), ((200, 400), [400]), ((3, 5), []),
            ((2, 3, 4, 5), [4, 5]), ((3, 5, 7, 8), [8]), ((4, 6, 9, 11, 13), [13]), ((6, 9, 20, 21), [21]),
            ((4, 6, 7, 8, 9), [8]), (tuple(range(1, 41)), list(range(2, 41))), (tuple(range(361, 401)), []),
            (tuple(range(10, 401, 10)), list(range(20, 401, 10))), ((100, 150, 399, 400), [400]),
            ((5, 7, 24), [24]), ((5, 7, 23), []),
        ]
        for purse, coins in told:
            with self.subTest(purse=purse):
                self.assertEqual(needless(purse), coins)
                self.assertIsInstance(needless(purse), list)

    def test_as_the_long_way(self):
        for purse in EDGE_PURSES + scattered_purses() + small_purses(9):
            with self.subTest(purse=purse):
                self.assertEqual(needless(purse), needless_the_long_way(purse))

    def test_the_list_is_new_each_time(self):
        first = needless((2, 3, 4, 5))
        first.append(400)
        second = needless((2, 3, 4, 5))
        self.assertEqual(second, [4, 5])
        second.clear()
        self.assertEqual(needless((3, 5)), [])
        needless((3, 5)).append(1)
        self.assertEqual(needless((3, 5)), [])
        self.assertEqual(needless((2, 3, 4, 5)), [4, 5])


class LeastPurse(unittest.TestCase):
    def test_told_ones(self):
        told = [
            ((1,), (1,)), ((400,), (400,)), ((1, 400), (1,)), ((2, 3, 4, 5), (2, 3)),
            ((4, 6, 9, 11, 13), (4, 6, 9, 11)), ((399, 400), (399, 400)), (tuple(range(1, 41)), (1,)),
            (tuple(range(361, 401)), tuple(range(361, 401))),
            (tuple(range(2, 81, 2)), (2,)), (tuple(range(40, 80)), tuple(range(40, 80))),
        ]
        for purse, least in told:
            with self.subTest(purse=purse):
                self.assertEqual(least_purse(purse), least)
                self.assertIsInstance(least_purse(purse), tuple)

    def test_it_has_just_the_coins_that_are_not_needless(self):
        for purse in EDGE_PURSES + scattered_purses():
            with self.subTest(purse=purse):
                left_out = needless_the_long_way(purse)
                self.assertEqual(least_purse(purse), tuple(coin for coin in purse if coin not in left_out))

    def test_it_is_a_purse_without_needless_coins(self):
        for purse in EDGE_PURSES + scattered_purses():
            with self.subTest(purse=purse):
                least = least_purse(purse)
                self.assertEqual(checked(least), least)
                self.assertEqual(needless(least), [])
                self.assertEqual(least_purse(least), least)

    def test_every_purse_that_makes_the_same_sums_has_all_its_coins(self):
        same = {}
        for purse in small_purses(8):
            same.setdefault(tuple(made_up_to(purse, 64)), []).append(purse)
        for purses in same.values():
            for purse in purses:
                least = least_purse(purse)
                self.assertIn(least, purses)
                for other in purses:
                    self.assertLessEqual(set(least), set(other))


if __name__ == "__main__":
    unittest.main()
