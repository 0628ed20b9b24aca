import unittest
from math import gcd

from coinyard.errors import BadPurse, Endless
from coinyard.gaps import ends_of, gaps_of, greatest_gap, is_even
from tests.samples import (
    EDGE_PURSES, NOT_PURSES, gaps_the_long_way, made_up_to, scattered_purses, small_purses,
)

FUNCTIONS = [gaps_of, greatest_gap, is_even, ends_of]

SAMPLES = EDGE_PURSES + scattered_purses() + small_purses(9)
BOUNDED = [purse for purse in SAMPLES if gcd(*purse) == 1]
ENDLESS = [purse for purse in SAMPLES if gcd(*purse) != 1]

WITHOUT_GAPS = [(1,), (1, 2), (1, 400), (1, 7, 9), tuple(range(1, 41)), (1,) + tuple(range(362, 401))]

# Purse, gaps, whether it is even, ends.
TOLD = [
    ((2, 3), [1], True, [1]),
    ((2, 5), [1, 3], True, [3]),
    ((3, 5), [1, 2, 4, 7], True, [7]),
    ((3, 5, 8, 10), [1, 2, 4, 7], True, [7]),
    ((4, 5, 6), [1, 2, 3, 7], True, [7]),
    ((4, 5, 11), [1, 2, 3, 6, 7], False, [6, 7]),
    ((4, 5, 6, 7), [1, 2, 3], False, [1, 2, 3]),
    ((3, 4, 5), [1, 2], False, [1, 2]),
    ((3, 5, 7), [1, 2, 4], False, [2, 4]),
    ((4, 5, 7), [1, 2, 3, 6], False, [3, 6]),
    ((3, 7, 8), [1, 2, 4, 5], False, [4, 5]),
    (tuple(range(40, 80)), list(range(1, 40)), False, list(range(1, 40))),
    ((6, 9, 20), [1, 2, 3, 4, 5, 7, 8, 10, 11, 13, 14, 16, 17, 19, 22, 23, 25, 28, 31, 34, 37, 43], True, [43]),
]


def is_even_the_long_way(purse):
    gaps = gaps_the_long_way(purse)
    if not gaps:
        return True
    made = made_up_to(purse, gaps[-1])
    return all(made[number] != made[gaps[-1] - number] for number in range(gaps[-1] + 1))


def ends_the_long_way(purse):
    gaps = gaps_the_long_way(purse)
    left_out = set(gaps)
    return [gap for gap in gaps if not any(gap + coin in left_out for coin in purse)]


class Refusals(unittest.TestCase):
    def test_what_is_no_purse_is_refused(self):
        for function in FUNCTIONS:
            for place, thing in enumerate(NOT_PURSES):
                with self.subTest(function=function.__name__, place=place):
                    with self.assertRaises(BadPurse) as caught:
                        function(thing)
                    self.assertIs(type(caught.exception), BadPurse)

    def test_a_divisor_other_than_1_is_refused(self):
        more = [(coin,) for coin in range(2, 401)] + [(4, 6), (6, 10, 14), (7, 14, 399), (199, 398), (20, 30, 45)]
        for function in FUNCTIONS:
            for purse in ENDLESS + more:
                with self.subTest(function=function.__name__, purse=purse):
                    with self.assertRaises(Endless) as caught:
                        function(purse)
                    self.assertIs(type(caught.exception), Endless)

    def test_of_both_the_purse_is_refused(self):
        both = [
            [4, 6], (6, 4), (4, 4), (0, 2), (-2, 4), (2, 402), (4, 6.0), (2, True), tuple(range(2, 84, 2)), (), "24",
        ]
        for function in FUNCTIONS:
            for place, thing in enumerate(both):
                with self.subTest(function=function.__name__, place=place):
                    with self.assertRaises(BadPurse) as caught:
                        function(thing)
                    self.assertIs(type(caught.exception), BadPurse)

    def test_what_is_refused_is_not_changed(self):
        for function in FUNCTIONS:
            for thing, copy in [([5, 3, 3], [5, 3, 3]), ({5: 3}, {5: 3}), (([3],), ([3],)), ({5, 3}, {5, 3})]:
                with self.subTest(function=function.__name__, thing=copy):
                    with self.assertRaises(BadPurse):
                        function(thing)
                    self.assertEqual(thing, copy)


class Gaps(unittest.TestCase):
    def test_told_ones(self):
        for purse, gaps, even, ends in TOLD:
            with self.subTest(purse=purse):
                self.assertEqual(gaps_of(purse), gaps)
                self.assertIs(type(gaps_of(purse)), list)

    def test_as_the_long_way(self):
        for purse in BOUNDED:
            with self.subTest(purse=purse):
                self.assertEqual(gaps_of(purse), gaps_the_long_way(purse))

    def test_none_with_a_coin_1(self):
        for purse in WITHOUT_GAPS:
            with self.subTest(purse=purse):
                self.assertEqual(gaps_of(purse), [])

    def test_the_most_gaps(self):
        gaps = gaps_of((399, 400))
        self.assertEqual(len(gaps), 398 * 399 // 2)
        self.assertEqual(gaps[:400], list(range(1, 399)) + [401, 402])
        self.assertEqual(gaps[-1], 399 * 400 - 399 - 400)

    def test_the_list_is_new_each_time(self):
        first = gaps_of((3, 5))
        first.append(400)
        first[0] = 400
        self.assertEqual(gaps_of((3, 5)), [1, 2, 4, 7])
        gaps_of((1,)).append(1)
        self.assertEqual(gaps_of((1,)), [])


class GreatestGap(unittest.TestCase):
    def test_told_ones(self):
        for purse, gaps, even, ends in TOLD:
            with self.subTest(purse=purse):
                self.assertEqual(greatest_gap(purse), gaps[-1])
                self.assertIs(type(greatest_gap(purse)), int)

    def test_as_the_long_way(self):
        for purse in BOUNDED:
            with self.subTest(purse=purse):
                gaps = gaps_the_long_way(purse)
                self.assertEqual(greatest_gap(purse), gaps[-1] if gaps else None)

    def test_none_with_a_coin_1(self):
        for purse in WITHOUT_GAPS:
            with self.subTest(purse=purse):
                self.assertIsNone(greatest_gap(purse))

    def test_of_two_coins(self):
        for one in range(2, 401, 13):
            for other in range(one + 1, 401, 17):
                if gcd(one, other) == 1:
                    with self.subTest(one=one, other=other):
                        self.assertEqual(greatest_gap((one, other)), one * other - one - other)


class Even(unittest.TestCase):
    def test_told_ones(self):
        for purse, gaps, even, ends in TOLD:
            with self.subTest(purse=purse):
                self.assertIs(is_even(purse), even)

    def test_as_the_long_way(self):
        for purse in BOUNDED:
            with self.subTest(purse=purse):
                self.assertIs(is_even(purse), is_even_the_long_way(purse))

    def test_without_gaps(self):
        for purse in WITHOUT_GAPS:
            with self.subTest(purse=purse):
                self.assertIs(is_even(purse), True)

    def test_not_where_the_greatest_gap_is_an_even_number(self):
        seen = 0
        for purse in BOUNDED:
            gaps = gaps_the_long_way(purse)
            if gaps and gaps[-1] % 2 == 0:
                seen += 1
                with self.subTest(purse=purse):
                    self.assertIs(is_even(purse), False)
        self.assertGreater(seen, 30)

    def test_two_coins_are_even(self):
        for purse in [(2, 3), (2, 399), (7, 9), (20, 21), (100, 399), (397, 400), (399, 400)]:
            with self.subTest(purse=purse):
                self.assertIs(is_even(purse), True)


class Ends(unittest.TestCase):
    def test_told_ones(self):
        for purse, gaps, even, ends in TOLD:
            with self.subTest(purse=purse):
                self.assertEqual(ends_of(purse), ends)
                self.assertIs(type(ends_of(purse)), list)

    def test_as_the_long_way(self):
        for purse in BOUNDED:
            with self.subTest(purse=purse):
                self.assertEqual(ends_of(purse), ends_the_long_way(purse))

    def test_none_with_a_coin_1(self):
        for purse in WITHOUT_GAPS:
            with self.subTest(purse=purse):
                self.assertEqual(ends_of(purse), [])

    def test_each_gap_comes_to_an_end_with_a_made_sum(self):
        for purse in small_purses(8) + [(6, 9, 20), (13, 17, 29, 31), (20, 33, 47), tuple(range(40, 80))]:
            if gcd(*purse) == 1:
                gaps = gaps_the_long_way(purse)
                made = made_up_to(purse, max(gaps, default=0))
                ends = ends_of(purse)
                for gap in gaps:
                    with self.subTest(purse=purse, gap=gap):
                        self.assertTrue(any(end >= gap and made[end - gap] for end in ends))

    def test_the_list_is_new_each_time(self):
        first = ends_of((3, 4, 5))
        first.append(400)
        first[0] = 400
        self.assertEqual(ends_of((3, 4, 5)), [1, 2])
        ends_of((1,)).append(1)
        self.assertEqual(ends_of((1,)), [])


if __name__ == "__main__":
    unittest.main()
