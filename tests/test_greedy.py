import unittest

from coinyard.errors import BadPurse, BadSum, NoOne
from coinyard.greedy import by_greatest, first_fault
from tests.samples import (
    EDGE_PURSES, NOT_PAID, NOT_PURSES, by_greatest_the_long_way, fewest_the_long_way, scattered_purses, small_purses,
    value_of,
)


def with_a_one(purse):
    return purse if purse[0] == 1 else (1,) + purse[-39:]


def first_fault_the_long_way(purse, bound):
    for number, few in enumerate(fewest_the_long_way(purse, bound)):
        if sum(by_greatest_the_long_way(purse, number)) > few:
            return number
    return None


class ByGreatest(unittest.TestCase):
    def test_told_ones(self):
        told = [
            ((1,), 0, (0,)), ((1,), 400, (400,)), ((400,), 400, (1,)), ((400,), 399, None), ((400,), 0, (0,)),
            ((1, 3, 4), 6, (2, 0, 1)), ((3, 5), 8, (1, 1)), ((3, 5), 7, None), ((1, 10, 25), 30, (5, 0, 1)),
            ((1, 5, 10, 25), 99, (4, 0, 2, 3)), ((399, 400), 399, (1, 0)), ((3, 399), 400, None),
            (tuple(range(1, 41)), 399, (0,) * 38 + (1, 9)), (tuple(range(361, 401)), 400, (0,) * 39 + (1,)),
        ]
        for purse, number, way in told:
            with self.subTest(purse=purse, number=number):
                self.assertEqual(by_greatest(purse, number), way)
                self.assertIs(type(by_greatest(purse, number)), type(way))

    def test_made_but_not_paid_so(self):
        for purse, number in [((3, 5), 6), ((3, 5), 9), ((3, 5), 12), ((4, 6), 8), ((200, 399), 400), ((2, 399), 400)]:
            with self.subTest(purse=purse, number=number):
                self.assertIsNotNone(fewest_the_long_way(purse, number)[number])
                self.assertIsNone(by_greatest(purse, number))

    def test_small_purses_as_the_long_way(self):
        for purse in small_purses(7):
            for number in range(41):
                with self.subTest(purse=purse, number=number):
                    self.assertEqual(by_greatest(purse, number), by_greatest_the_long_way(purse, number))

    def test_great_purses_as_the_long_way(self):
        for purse in EDGE_PURSES + scattered_purses():
            for number in [0, 1, 39, 40, 99, 199, 200, 301, 361, 398, 399, 400]:
                with self.subTest(purse=purse, number=number):
                    way = by_greatest(purse, number)
                    self.assertEqual(way, by_greatest_the_long_way(purse, number))
                    if way is not None:
                        self.assertEqual(value_of(purse, way), number)

    def test_what_is_no_purse_is_refused(self):
        for place, thing in enumerate(NOT_PURSES):
            for number in [0, 8, 400]:
                with self.subTest(place=place, number=number):
                    with self.assertRaises(BadPurse) as caught:
                        by_greatest(thing, number)
                    self.assertIs(type(caught.exception), BadPurse)

    def test_what_is_no_sum_to_be_paid_is_refused(self):
        for purse in [(1,), (3, 5), (4, 6), (400,), tuple(range(1, 41))]:
            for place, thing in enumerate(NOT_PAID):
                with self.subTest(purse=purse, place=place):
                    with self.assertRaises(BadSum) as caught:
                        by_greatest(purse, thing)
                    self.assertIs(type(caught.exception), BadSum)

    def test_of_both_the_purse_is_refused(self):
        for place, thing in enumerate(NOT_PURSES):
            for number_place, number in enumerate(NOT_PAID):
                with self.subTest(place=place, number_place=number_place):
                    with self.assertRaises(BadPurse) as caught:
                        by_greatest(thing, number)
                    self.assertIs(type(caught.exception), BadPurse)

    def test_what_is_refused_is_not_changed(self):
        purse, number = [5, 3], [5]
        with self.assertRaises(BadPurse):
            by_greatest(purse, 5)
        with self.assertRaises(BadSum):
            by_greatest((3, 5), number)
        self.assertEqual((purse, number), ([5, 3], [5]))


class FirstFault(unittest.TestCase):
    def test_told_ones(self):
        told = [
            ((1, 3, 4), 6), ((1, 10, 25), 30), ((1, 7, 10), 14), ((1, 5, 8), 10), ((1, 2, 5, 6, 8), 11),
            ((1, 6, 13), 18), ((1, 20, 25), 40), ((1, 3, 4, 400), 6), ((1, 200, 398), 400), ((1, 201, 400), 402),
        ]
        for purse, fault in told:
            with self.subTest(purse=purse):
                self.assertEqual(first_fault(purse), fault)
                self.assertIs(type(first_fault(purse)), int)

    def test_always_best(self):
        always = [
            (1,), (1, 2, 3), (1, 5, 10, 25, 50, 100), (1, 2, 4, 8, 16, 32, 64, 128, 256),
            (1, 2, 5, 10, 20, 50, 100, 200), (1, 200, 400), (1, 199, 397), (1, 200, 399), (1, 2, 4, 5, 8),
            (1, 100, 200, 400), tuple(range(1, 41)), tuple(range(1, 40)) + (390,),
        ] + [(1, coin) for coin in range(2, 401)]
        for purse in always:
            with self.subTest(purse=purse):
                self.assertIsNone(first_fault(purse))

    def test_near_the_greatest_coins_together(self):
        for coin in [3, 4, 20, 150, 200, 201, 398, 399]:
            with self.subTest(coin=coin):
                self.assertEqual(first_fault((1, coin, coin + 1)), 2 * coin)

    def test_small_purses_as_the_long_way(self):
        for purse in small_purses(11):
            if purse[0] == 1:
                with self.subTest(purse=purse):
                    self.assertEqual(first_fault(purse), first_fault_the_long_way(purse, 66))

    def test_three_coins_as_the_long_way(self):
        for one in range(2, 25):
            for other in range(one + 1, 26):
                with self.subTest(one=one, other=other):
                    self.assertEqual(first_fault((1, one, other)), first_fault_the_long_way((1, one, other), 130))

    def test_great_purses_as_the_long_way(self):
        for purse in EDGE_PURSES + scattered_purses():
            with self.subTest(purse=purse):
                taken = with_a_one(purse)
                self.assertEqual(first_fault(taken), first_fault_the_long_way(taken, 2 * taken[-1] + 40))

    def test_what_is_no_purse_is_refused(self):
        for place, thing in enumerate(NOT_PURSES):
            with self.subTest(place=place):
                with self.assertRaises(BadPurse) as caught:
                    first_fault(thing)
                self.assertIs(type(caught.exception), BadPurse)

    def test_no_coin_1_is_refused(self):
        without = [purse for purse in EDGE_PURSES + scattered_purses() + small_purses(6) if 1 not in purse]
        for purse in without + [(coin,) for coin in range(2, 401)]:
            with self.subTest(purse=purse):
                with self.assertRaises(NoOne) as caught:
                    first_fault(purse)
                self.assertIs(type(caught.exception), NoOne)

    def test_of_both_the_purse_is_refused(self):
        both = [
            [3, 4], (4, 3), (3, 3), (0, 3), (2, 401), (3, 4.0), (2, True), (True, 3), (3, 1), tuple(range(2, 43)), "34",
        ]
        for place, thing in enumerate(both):
            with self.subTest(place=place):
                with self.assertRaises(BadPurse) as caught:
                    first_fault(thing)
                self.assertIs(type(caught.exception), BadPurse)


if __name__ == "__main__":
    unittest.main()
