import unittest
from functools import lru_cache
from itertools import product

from coinyard.errors import BadPurse, BadSum, TooMany
from coinyard.paying import a_way, all_ways, count_ways, fewest
from tests.samples import (
    EDGE_PURSES, NOT_PAID, NOT_PURSES, fewest_the_long_way, scattered_purses, small_purses, value_of,
)

FUNCTIONS = [fewest, a_way, count_ways, all_ways]

GREAT_PURSES = EDGE_PURSES + scattered_purses()
SOME_SUMS = [0, 1, 2, 7, 39, 40, 99, 199, 200, 301, 359, 361, 398, 399, 400]


def ways_the_long_way(purse, number):
    tries = product(*[range(number // coin + 1) for coin in purse])
    return [way for way in tries if value_of(purse, way) == number]


def count_the_long_way(purse, number):
    @lru_cache(maxsize=None)
    def count(many, left):
        if many == 0:
            return 1 if left == 0 else 0
        coin = purse[many - 1]
        return sum(count(many - 1, left - times * coin) for times in range(left // coin + 1))

    return count(len(purse), number)


class Refusals(unittest.TestCase):
    def assert_refused(self, refusal, function, purse, number):
        with self.assertRaises(refusal) as caught:
            function(purse, number)
        self.assertIs(type(caught.exception), refusal)

    def test_what_is_no_purse_is_refused(self):
        for function in FUNCTIONS:
            for place, thing in enumerate(NOT_PURSES):
                for number in [0, 8, 400]:
                    with self.subTest(function=function.__name__, place=place, number=number):
                        self.assert_refused(BadPurse, function, thing, number)

    def test_what_is_no_sum_to_be_paid_is_refused(self):
        for function in FUNCTIONS:
            for purse in [(1,), (3, 5), (4, 6), (400,), tuple(range(1, 41))]:
                for place, thing in enumerate(NOT_PAID):
                    with self.subTest(function=function.__name__, purse=purse, place=place):
                        self.assert_refused(BadSum, function, purse, thing)

    def test_of_both_the_purse_is_refused(self):
        for function in FUNCTIONS:
            for place, thing in enumerate(NOT_PURSES):
                for number_place, number in enumerate(NOT_PAID):
                    with self.subTest(function=function.__name__, place=place, number_place=number_place):
                        self.assert_refused(BadPurse, function, thing, number)

    def test_a_sum_beyond_400_is_refused_ahead_of_too_many_ways(self):
        for number in [401, 1000, 10 ** 5000]:
            with self.subTest(number=number.bit_length()):
                self.assert_refused(BadSum, all_ways, (1, 2), number)

    def test_the_purse_is_refused_ahead_of_too_many_ways(self):
        for place, thing in enumerate([[1, 2], (1, 2, 2), (2, 1), (0, 1, 2), (1, 2, 401), tuple(range(1, 42))]):
            with self.subTest(place=place):
                self.assert_refused(BadPurse, all_ways, thing, 400)

    def test_what_is_refused_is_not_changed(self):
        for function in FUNCTIONS:
            with self.subTest(function=function.__name__):
                purse, number = [5, 3], [5]
                self.assert_refused(BadPurse, function, purse, 5)
                self.assert_refused(BadSum, function, (3, 5), number)
                self.assertEqual((purse, number), ([5, 3], [5]))

    def test_0_and_400_are_paid(self):
        for function in FUNCTIONS:
            for purse in [(1,), (400,), (399, 400), (4, 399), tuple(range(361, 401))]:
                for number in [0, 400]:
                    with self.subTest(function=function.__name__, purse=purse, number=number):
                        function(purse, number)


class Fewest(unittest.TestCase):
    def test_told_ones(self):
        told = [
            ((1,), 0, 0), ((1,), 400, 400), ((400,), 0, 0), ((400,), 400, 1), ((400,), 399, None), ((7,), 0, 0),
            ((1, 3, 4), 6, 2), ((3, 5), 7, None), ((3, 5), 8, 2), ((3, 5), 15, 3), ((4, 6), 2, None), ((4, 6), 5, None),
            ((1, 10, 25), 30, 3), ((6, 9, 20), 43, None), ((6, 9, 20), 44, 4), ((399, 400), 400, 1),
            ((1, 399, 400), 398, 398), (tuple(range(1, 41)), 400, 10), (tuple(range(361, 401)), 360, None),
            (tuple(range(2, 81, 2)), 399, None), (tuple(range(2, 81, 2)), 400, 5),
        ]
        for purse, number, few in told:
            with self.subTest(purse=purse, number=number):
                self.assertEqual(fewest(purse, number), few)
                self.assertIs(type(fewest(purse, number)), type(few))

    def test_small_purses_as_the_long_way(self):
        for purse in small_purses(7):
            with self.subTest(purse=purse):
                told = [fewest(purse, number) for number in range(41)]
                self.assertEqual(told, fewest_the_long_way(purse, 40))

    def test_great_purses_as_the_long_way(self):
        for purse in GREAT_PURSES:
            few = fewest_the_long_way(purse, 400)
            for number in SOME_SUMS:
                with self.subTest(purse=purse, number=number):
                    self.assertEqual(fewest(purse, number), few[number])


class AWay(unittest.TestCase):
    def assert_best(self, purse, number, few):
        way = a_way(purse, number)
        if few is None:
            self.assertIsNone(way)
        else:
            self.assertIs(type(way), tuple)
            self.assertTrue(all(type(times) is int and times >= 0 for times in way))
            self.assertEqual(value_of(purse, way), number)
            self.assertEqual(sum(way), few)

    def test_where_there_is_just_one_best(self):
        told = [
            ((1,), 0, (0,)), ((1,), 400, (400,)), ((400,), 399, None), ((400,), 400, (1,)), ((3, 5), 0, (0, 0)),
            ((1, 3, 4), 6, (0, 2, 0)), ((3, 5), 7, None), ((3, 5), 11, (2, 1)), ((1, 10, 25), 30, (0, 3, 0)),
            ((6, 9, 20), 40, (0, 0, 2)), ((1, 3, 200, 398), 400, (0, 0, 2, 0)),
            ((399, 400), 399, (1, 0)),
        ]
        for purse, number, way in told:
            with self.subTest(purse=purse, number=number):
                self.assertEqual(a_way(purse, number), way)

    def test_small_purses_as_the_long_way(self):
        for purse in small_purses(7):
            for number, few in enumerate(fewest_the_long_way(purse, 40)):
                with self.subTest(purse=purse, number=number):
                    self.assert_best(purse, number, few)

    def test_great_purses_as_the_long_way(self):
        for purse in GREAT_PURSES:
            few = fewest_the_long_way(purse, 400)
            for number in SOME_SUMS:
                with self.subTest(purse=purse, number=number):
                    self.assert_best(purse, number, few[number])

    def test_0_is_paid_by_no_coins(self):
        for purse in GREAT_PURSES:
            with self.subTest(purse=purse):
                self.assertEqual(a_way(purse, 0), (0,) * len(purse))


class CountWays(unittest.TestCase):
    def test_told_ones(self):
        told = [
            ((1,), 0, 1), ((1,), 400, 1), ((400,), 399, 0), ((400,), 400, 1), ((3, 5), 7, 0), ((3, 5), 15, 2),
            ((1, 2), 398, 200), ((1, 2), 399, 200), ((1, 2), 400, 201), ((1, 5, 10, 25, 50), 100, 292),
            ((1, 2, 5, 10, 20, 50, 100, 200), 200, 73682), ((4, 6), 5, 0), (tuple(range(1, 41)), 40, 37338),
            (tuple(range(361, 401)), 400, 1), (tuple(range(361, 401)), 360, 0), (tuple(range(2, 81, 2)), 399, 0),
        ]
        for purse, number, many in told:
            with self.subTest(purse=purse, number=number):
                self.assertEqual(count_ways(purse, number), many)
                self.assertIs(type(count_ways(purse, number)), int)

    def test_small_purses_as_the_long_way(self):
        for purse in small_purses(5):
            for number in range(16):
                with self.subTest(purse=purse, number=number):
                    self.assertEqual(count_ways(purse, number), len(ways_the_long_way(purse, number)))

    def test_great_purses_as_the_long_way(self):
        for purse in EDGE_PURSES + scattered_purses()[::5]:
            for number in [0, 40, 199, 361, 399, 400]:
                with self.subTest(purse=purse, number=number):
                    self.assertEqual(count_ways(purse, number), count_the_long_way(purse, number))


class AllWays(unittest.TestCase):
    def test_told_ones(self):
        told = [
            ((1,), 0, [(0,)]), ((1,), 400, [(400,)]), ((400,), 399, []), ((400,), 400, [(1,)]), ((3, 5), 0, [(0, 0)]),
            ((3, 5), 7, []), ((3, 5), 15, [(0, 3), (5, 0)]), ((4, 6), 5, []),
            ((1, 3, 4), 6, [(0, 2, 0), (2, 0, 1), (3, 1, 0), (6, 0, 0)]),
            ((399, 400), 400, [(0, 1)]), ((1, 400), 400, [(0, 1), (400, 0)]),
            (tuple(range(361, 401)), 400, [(0,) * 39 + (1,)]), (tuple(range(361, 401)), 361, [(1,) + (0,) * 39]),
        ]
        for purse, number, ways in told:
            with self.subTest(purse=purse, number=number):
                self.assertEqual(all_ways(purse, number), ways)

    def test_small_purses_as_the_long_way(self):
        for purse in small_purses(5):
            for number in range(16):
                with self.subTest(purse=purse, number=number):
                    ways = ways_the_long_way(purse, number)
                    self.assertEqual(all_ways(purse, number), sorted(ways))

    def test_a_list_of_tuples_of_whole_numbers(self):
        for purse, number in [((3, 5), 7), ((3, 5), 30), ((2, 3, 7), 41), ((1, 399), 400)]:
            with self.subTest(purse=purse, number=number):
                ways = all_ways(purse, number)
                self.assertIs(type(ways), list)
                self.assertTrue(all(type(way) is tuple for way in ways))
                self.assertTrue(all(type(times) is int for way in ways for times in way))

    def test_just_200_ways(self):
        for number in [398, 399]:
            with self.subTest(number=number):
                self.assertEqual(
                    all_ways((1, 2), number), [(number - 2 * twos, twos) for twos in range(199, -1, -1)])

    def test_201_ways_are_too_many(self):
        with self.assertRaises(TooMany) as caught:
            all_ways((1, 2), 400)
        self.assertIs(type(caught.exception), TooMany)

    def test_great_purses(self):
        refused = 0
        for purse in GREAT_PURSES:
            for number in SOME_SUMS:
                with self.subTest(purse=purse, number=number):
                    many = count_the_long_way(purse, number)
                    if many > 200:
                        refused += 1
                        with self.assertRaises(TooMany):
                            all_ways(purse, number)
                    else:
                        ways = all_ways(purse, number)
                        self.assertEqual(len(ways), many)
                        self.assertEqual(ways, sorted(set(ways)))
                        self.assertTrue(all(value_of(purse, way) == number for way in ways))
                        self.assertTrue(all(times >= 0 for way in ways for times in way))
        self.assertGreater(refused, 20)

    def test_few_ways_among_very_many_beginnings(self):
        evens = tuple(range(2, 79, 2))
        self.assertEqual(all_ways(evens + (399,), 399), [(0,) * 39 + (1,)])
        self.assertEqual(all_ways(evens + (397,), 399), [(1,) + (0,) * 38 + (1,)])
        self.assertEqual(all_ways(evens, 399), [])

    def test_the_list_is_new_each_time(self):
        first = all_ways((3, 5), 15)
        first.append(())
        first[0] = ()
        self.assertEqual(all_ways((3, 5), 15), [(0, 3), (5, 0)])
        all_ways((3, 5), 7).append(())
        self.assertEqual(all_ways((3, 5), 7), [])
        all_ways((3, 5), 0).clear()
        self.assertEqual(all_ways((3, 5), 0), [(0, 0)])


if __name__ == "__main__":
    unittest.main()
