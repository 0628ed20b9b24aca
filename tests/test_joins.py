import unittest
from itertools import product
from math import gcd

from coinyard.errors import BadPurse, BadSum, Endless, TooBig
from coinyard.joins import divided, made_by_both, made_by_either
from coinyard.purses import least_purse
from tests.samples import (
    EDGE_PURSES, NOT_PURSES, NOT_SUMS, answer, far_enough, greatest_gap_the_long_way, made_up_to,
    needless_the_long_way, scattered_purses, small_purses, told_of_sums,
)

OF_TWO = [made_by_either, made_by_both]
NOT_PARTS = NOT_SUMS + [0, 21, 22, 40, 400, 10 ** 5000]

# Some of them have the divisor 1, some another; their least coins and their gaps are great and small.
MIXED = [
    (1,), (1, 9), (2, 3), (2, 399), (3, 5), (3, 400), (4, 6), (5,), (6, 9, 20), (4, 5, 6, 7), (7, 11, 13), (10, 31),
    (11, 78), (12, 18), (20, 33, 47), (40, 41), (101, 150), (399, 400), (400,), tuple(range(40, 80)),
    tuple(range(361, 401)), tuple(range(322, 401, 2)),
]

# They make some sums from 21 on, but not 40 or 39, and all beyond that.
ALL_BEYOND_40 = tuple(range(21, 40)) + (41,)
ALL_BEYOND_39 = tuple(range(21, 39)) + (40, 41)


def made_by_either_the_long_way(one, other):
    coins = tuple(sorted(set(one + other)))
    left_out = needless_the_long_way(coins)
    coins = tuple(coin for coin in coins if coin not in left_out)
    return coins if len(coins) <= 40 else "TooBig"


def made_by_both_the_long_way(one, other):
    if gcd(*one) != 1 or gcd(*other) != 1:
        return "Endless"
    bound = far_enough(max(greatest_gap_the_long_way(one), greatest_gap_the_long_way(other)))
    made = zip(made_up_to(one, bound), made_up_to(other, bound))
    return told_of_sums([by_one and by_other for by_one, by_other in made])


def divided_the_long_way(purse, number):
    if gcd(*purse) != 1:
        return "Endless"
    bound = far_enough(greatest_gap_the_long_way(purse) // number)
    return told_of_sums(made_up_to(purse, bound * number)[::number])


class Refusals(unittest.TestCase):
    def refused(self, refusal, function, *handed):
        with self.assertRaises(refusal) as caught:
            function(*handed)
        self.assertIs(type(caught.exception), refusal)

    def test_what_is_no_purse_is_refused_in_either_place(self):
        # The good purses: an ordinary one, one with another divisor, one that makes the answer too big.
        for function in OF_TWO:
            for good in [(3, 5), (4, 6), (399, 400)]:
                for place, thing in enumerate(NOT_PURSES):
                    with self.subTest(function=function.__name__, good=good, place=place):
                        self.refused(BadPurse, function, thing, good)
                        self.refused(BadPurse, function, good, thing)

    def test_what_is_no_purse_is_refused_in_both_places(self):
        for function in OF_TWO:
            for place, thing in enumerate(NOT_PURSES):
                with self.subTest(function=function.__name__, place=place):
                    self.refused(BadPurse, function, thing, thing)

    def test_what_is_no_purse_is_not_divided(self):
        for place, thing in enumerate(NOT_PURSES):
            for number in [1, 2, 20, 0, 21, True, None, "2", thing]:
                with self.subTest(place=place):
                    self.refused(BadPurse, divided, thing, number)

    def test_by_what_is_not_divided(self):
        # Purses with another divisor, and one whose answer is too big: BadSum goes ahead.
        for purse in [(1,), (3, 5), (399, 400), (4, 6), (7,), tuple(range(10, 401, 10)), (102, 131, 162)]:
            for place, number in enumerate(NOT_PARTS):
                with self.subTest(purse=purse, place=place):
                    self.refused(BadSum, divided, purse, number)

    def test_a_divisor_other_than_1_is_refused_in_either_place(self):
        endless = [(2,), (400,), (4, 6), (200, 400), (6, 10, 14), tuple(range(10, 401, 10)), tuple(range(322, 401, 2))]
        for one in endless:
            for other in [(1,), (3, 5), (399, 400), (361, 400), tuple(range(40, 80))] + endless:
                with self.subTest(one=one, other=other):
                    self.refused(Endless, made_by_both, one, other)
                    self.refused(Endless, made_by_both, other, one)

    def test_a_divisor_other_than_1_is_not_divided(self):
        for purse in [(2,), (3,), (20,), (400,), (4, 6), (200, 400), (20, 40, 60), tuple(range(10, 401, 10))]:
            for number in range(1, 21):
                with self.subTest(purse=purse, number=number):
                    self.refused(Endless, divided, purse, number)

    def test_put_together_no_divisor_is_refused(self):
        self.assertEqual(made_by_either((4,), (6,)), (4, 6))
        self.assertEqual(made_by_either((2,), (400,)), (2,))
        self.assertEqual(made_by_either((399,), (400,)), (399, 400))
        self.assertEqual(made_by_either((400,), (400,)), (400,))

    def test_what_is_refused_is_not_changed(self):
        for function in OF_TWO + [divided]:
            for thing, copy in [([5, 3, 3], [5, 3, 3]), ({5: 3}, {5: 3}), (([3],), ([3],)), ({5, 3}, {5, 3})]:
                with self.subTest(function=function.__name__, thing=copy):
                    self.refused(BadPurse, function, thing, (3, 5))
                    self.refused(BadPurse, function, thing, thing)
                    self.assertEqual(thing, copy)
        numbers = [5, 3]
        self.refused(BadSum, divided, (3, 5), numbers)
        self.assertEqual(numbers, [5, 3])


class MadeByEither(unittest.TestCase):
    def test_told_ones(self):
        told = [
            ((3,), (5,), (3, 5)), ((3, 5), (3, 5), (3, 5)), ((4, 6), (6, 9), (4, 6, 9)), ((3, 5), (2,), (2, 3)),
            ((1,), tuple(range(361, 401)), (1,)), ((399, 400), (1, 2), (1,)), ((2, 3, 4), (5, 6, 7), (2, 3)),
            ((6, 10), (15,), (6, 10, 15)), ((20,), (6, 9), (6, 9, 20)), ((5,), (7, 12, 24), (5, 7)),
        ]
        for one, other, purse in told:
            with self.subTest(one=one, other=other):
                self.assertEqual(made_by_either(one, other), purse)
                self.assertEqual(made_by_either(other, one), purse)
                self.assertIs(type(made_by_either(one, other)), tuple)

    def test_as_the_long_way(self):
        purses = EDGE_PURSES + scattered_purses()[::3] + MIXED
        for one, other in product(purses, purses):
            with self.subTest(one=one, other=other):
                self.assertEqual(answer(made_by_either, one, other), made_by_either_the_long_way(one, other))

    def test_small_ones_as_the_long_way(self):
        for one, other in product(small_purses(6), small_purses(5)):
            with self.subTest(one=one, other=other):
                self.assertEqual(made_by_either(one, other), made_by_either_the_long_way(one, other))

    def test_just_40_coins(self):
        forty = tuple(range(361, 401))
        for one, other in [
            (forty, forty), (forty[:20], forty[20:]), (forty[::2], forty[1::2]), (forty, (400,)), (forty[1:], (361,)),
            (tuple(range(40, 80)), tuple(range(80, 120))), (tuple(range(40, 60)), tuple(range(60, 100))),
            (tuple(range(40, 79)), (79, 400)),
        ]:
            with self.subTest(one=one, other=other):
                self.assertEqual(len(made_by_either(one, other)), 40)
                self.assertEqual(len(made_by_either(other, one)), 40)
        self.assertEqual(made_by_either(forty[:20], forty[20:]), forty)

    def test_41_coins_and_more_are_too_big(self):
        forty = tuple(range(361, 401))
        for one, other in [
            (forty, (360,)), (forty, (201,)), (tuple(range(360, 380)), tuple(range(380, 401))),
            (tuple(range(41, 81)), (81,)), (tuple(range(41, 81)), (81, 82)), (forty, tuple(range(321, 361))),
            (tuple(range(201, 241)), tuple(range(361, 401))),
        ]:
            with self.subTest(one=one, other=other):
                self.assertEqual(answer(made_by_either, one, other), "TooBig")
                self.assertEqual(answer(made_by_either, other, one), "TooBig")

    def test_needless_coins_do_not_count(self):
        # 80 coins are put together, and one of them makes all others.
        self.assertEqual(made_by_either((1,) + tuple(range(362, 401)), tuple(range(322, 362))), (1,))
        self.assertEqual(made_by_either(tuple(range(322, 401, 2)), (2,) + tuple(range(4, 82, 2))), (2,))


class MadeByBoth(unittest.TestCase):
    def test_told_ones(self):
        told = [
            ((2, 3), (3, 5), (3, 5)), ((1,), (3, 5), (3, 5)), ((1,), (1, 2), (1,)), ((3, 5), (3, 5), (3, 5)),
            ((2, 5), (3, 4), (4, 6, 7, 9)), ((2, 3), (2, 5), (2, 5)), ((3, 4, 5), (2, 7), (4, 6, 7, 9)),
            ((3, 5), (4, 5), (5, 8, 9, 12)), ((3, 5, 8), (1, 7), (3, 5)),
            ((1,), (399, 400), (399, 400)), ((399, 400), (399, 400), (399, 400)),
        ]
        for one, other, purse in told:
            with self.subTest(one=one, other=other):
                self.assertEqual(made_by_both(one, other), purse)
                self.assertEqual(made_by_both(other, one), purse)
                self.assertIs(type(made_by_both(one, other)), tuple)

    def test_the_same_sums_in_two_purses(self):
        for purse in EDGE_PURSES + scattered_purses()[::4] + MIXED:
            if gcd(*purse) == 1:
                with self.subTest(purse=purse):
                    self.assertEqual(made_by_both(purse, purse), least_purse(purse))
                    self.assertEqual(made_by_both(purse, (1, 2)), least_purse(purse))
                    self.assertEqual(made_by_both((1,), purse), least_purse(purse))

    def test_small_ones_as_the_long_way(self):
        for one, other in product(small_purses(7), small_purses(6)):
            with self.subTest(one=one, other=other):
                self.assertEqual(answer(made_by_both, one, other), made_by_both_the_long_way(one, other))

    def test_as_the_long_way(self):
        purses = MIXED + scattered_purses()[1::11]
        for place, one in enumerate(purses):
            for other in purses[place:]:
                with self.subTest(one=one, other=other):
                    told = made_by_both_the_long_way(one, other)
                    self.assertEqual(answer(made_by_both, one, other), told)
                    self.assertEqual(answer(made_by_both, other, one), told)

    def test_just_40_coins(self):
        self.assertEqual(made_by_both(tuple(range(39, 78)), ALL_BEYOND_39), tuple(range(40, 80)))
        self.assertEqual(made_by_both((1,), tuple(range(361, 401))), tuple(range(361, 401)))
        self.assertEqual(len(made_by_both((11, 16), (5, 21))), 40)

    def test_41_coins_are_too_big(self):
        for one, other in [(tuple(range(40, 80)), ALL_BEYOND_40), ((17, 21), (8, 25))]:
            with self.subTest(one=one, other=other):
                self.assertEqual(answer(made_by_both, one, other), "TooBig")
                self.assertEqual(answer(made_by_both, other, one), "TooBig")

    def test_a_coin_400(self):
        for one, other in [((19, 25), (16, 79)), ((2, 3), (3, 400)), ((1,), (399, 400))]:
            with self.subTest(one=one, other=other):
                self.assertEqual(made_by_both(one, other)[-1], 400)
                self.assertEqual(made_by_both(one, other), made_by_both_the_long_way(one, other))

    def test_a_coin_beyond_400_is_too_big(self):
        # The greatest coin would be 401; all coins would be beyond 400, in two of them; only some.
        for one, other in [
            ((10, 31), (11, 78)), ((399, 400), (397, 398)), ((397, 400), (398, 399)), ((2, 399), (3, 400)),
        ]:
            with self.subTest(one=one, other=other):
                self.assertEqual(answer(made_by_both, one, other), "TooBig")
                self.assertEqual(answer(made_by_both, other, one), "TooBig")
                self.assertEqual(made_by_both_the_long_way(one, other), "TooBig")


class Divided(unittest.TestCase):
    def test_told_ones(self):
        told = [
            ((3, 5), 2, (3, 4, 5)), ((3, 5), 3, (1,)), ((3, 5), 5, (1,)), ((2, 3), 2, (1,)), ((1,), 20, (1,)),
            ((6, 9, 20), 2, (3, 10)), ((6, 9, 20), 3, (2, 3)), ((6, 9, 20), 20, (1,)), ((4, 5), 3, (3, 4, 5)),
            ((399, 400), 3, (133, 400)), ((399, 400), 20, (20, 399)), ((399, 400), 1, (399, 400)),
            ((7, 9), 2, (7, 8, 9)), ((3, 400), 2, (3, 200)),
        ]
        for purse, number, least in told:
            with self.subTest(purse=purse, number=number):
                self.assertEqual(divided(purse, number), least)
                self.assertIs(type(divided(purse, number)), tuple)

    def test_by_1_it_is_the_least_purse(self):
        for purse in EDGE_PURSES + scattered_purses() + MIXED + small_purses(7):
            if gcd(*purse) == 1:
                with self.subTest(purse=purse):
                    self.assertEqual(divided(purse, 1), least_purse(purse))

    def test_small_ones_as_the_long_way(self):
        for purse in small_purses(7):
            for number in range(1, 21):
                with self.subTest(purse=purse, number=number):
                    self.assertEqual(answer(divided, purse, number), divided_the_long_way(purse, number))

    def test_as_the_long_way(self):
        for place, purse in enumerate(EDGE_PURSES + scattered_purses() + MIXED):
            for number in [2, 3, 20, 4 + place % 16]:
                with self.subTest(purse=purse, number=number):
                    self.assertEqual(answer(divided, purse, number), divided_the_long_way(purse, number))

    def test_just_40_coins(self):
        for purse, number in [
            ((87, 247, 355), 20), ((117, 145, 176, 187), 7), ((129, 138, 165, 169, 201, 202), 4),
            (tuple(range(361, 401)), 1), (tuple(range(40, 80)), 1),
        ]:
            with self.subTest(purse=purse, number=number):
                self.assertEqual(len(divided(purse, number)), 40)
                self.assertEqual(divided(purse, number), divided_the_long_way(purse, number))

    def test_41_coins_and_more_are_too_big(self):
        # 41, 41, 41, 41, 42 and 48 coins would be needed.
        for purse, number in [
            ((183, 283, 318), 20), ((118, 124, 125, 152), 7), ((113, 171, 199, 203, 243, 251), 4),
            ((64, 91, 155, 172, 175, 196, 244), 3), ((95, 103, 105, 111, 123, 139, 153, 177, 182, 201), 2),
            ((102, 131, 162), 20),
        ]:
            with self.subTest(purse=purse, number=number):
                with self.assertRaises(TooBig):
                    divided(purse, number)
                self.assertEqual(divided_the_long_way(purse, number), "TooBig")

    def test_a_coin_400_stays(self):
        self.assertEqual(divided((399, 400), 3)[-1], 400)
        self.assertEqual(divided((39, 400), 13), (3, 400))
        self.assertEqual(divided((1, 400), 1), (1,))

    def test_by_19_20_and_21(self):
        self.assertEqual(divided((20, 21), 20), divided_the_long_way((20, 21), 20))
        self.assertEqual(divided((20, 21), 19), divided_the_long_way((20, 21), 19))
        self.assertEqual(answer(divided, (20, 21), 21), "BadSum")
        self.assertEqual(answer(divided, (20, 21), 0), "BadSum")
        self.assertEqual(answer(divided, (20, 21), -1), "BadSum")


if __name__ == "__main__":
    unittest.main()
