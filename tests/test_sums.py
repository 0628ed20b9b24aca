import unittest

from coinyard.errors import BadPurse, BadSum
from coinyard.sums import least_sums, makes, same_sums
from tests.samples import (
    EDGE_PURSES, NOT_PURSES, NOT_SUMS, least_sums_the_long_way, made_up_to, scattered_purses, small_purses,
)

GREAT = 10 ** 5000


class LeastSums(unittest.TestCase):
    def test_told_ones(self):
        told = [
            ((1,), [0]), ((2,), [0, None]), ((3, 5), [0, 10, 5]), ((4, 6), [0, None, 6, None]),
            ((6, 9, 20), [0, 49, 20, 9, 40, 29]), ((1, 400), [0]), ((4, 5, 11), [0, 5, 10, 11]),
            ((400,), [0] + [None] * 399), ((3, 6, 9), [0, None, None]), ((200, 400), [0] + [None] * 199),
            ((399, 400), [400 * rest for rest in range(399)]), (tuple(range(40, 80)), [0] + list(range(41, 80))),
            ((6, 10, 15), [0, 25, 20, 15, 10, 35]), (tuple(range(1, 41)), [0]),
        ]
        for purse, least in told:
            with self.subTest(purse=purse):
                self.assertEqual(least_sums(purse), least)
                self.assertIsInstance(least_sums(purse), list)

    def test_as_the_long_way(self):
        for purse in EDGE_PURSES + scattered_purses() + small_purses(9):
            with self.subTest(purse=purse):
                self.assertEqual(least_sums(purse), least_sums_the_long_way(purse))

    def test_the_list_is_new_each_time(self):
        first = least_sums((3, 5))
        first[0] = 400
        first.append(400)
        self.assertEqual(least_sums((3, 5)), [0, 10, 5])
        self.assertTrue(makes((3, 5), 0))

    def test_what_is_no_purse_is_refused(self):
        for place, thing in enumerate(NOT_PURSES):
            with self.subTest(place=place):
                with self.assertRaises(BadPurse) as caught:
                    least_sums(thing)
                self.assertIs(type(caught.exception), BadPurse)


class Makes(unittest.TestCase):
    def test_small_purses_as_the_long_way(self):
        for purse in small_purses(7):
            with self.subTest(purse=purse):
                self.assertEqual([makes(purse, number) for number in range(61)], made_up_to(purse, 60))

    def test_great_purses_as_the_long_way(self):
        for purse in EDGE_PURSES + scattered_purses()[::6]:
            made = made_up_to(purse, 1600)
            for number in list(range(0, 1601, 17)) + list(range(395, 406)):
                with self.subTest(purse=purse, number=number):
                    self.assertIs(makes(purse, number), made[number])

    def test_true_and_false_themselves_are_told(self):
        told = [((3, 5), 8, True), ((3, 5), 7, False), ((3, 5), 1, False), ((4, 6), 2, False), ((4, 6), 5, False)]
        for purse, number, answer in told:
            with self.subTest(purse=purse, number=number):
                self.assertIs(makes(purse, number), answer)

    def test_nothing_is_made_by_every_purse(self):
        for purse in EDGE_PURSES + scattered_purses():
            with self.subTest(purse=purse):
                self.assertIs(makes(purse, 0), True)

    def test_the_edge_of_a_least_sum(self):
        for purse in [(3, 5), (6, 9, 20), (399, 400), (397, 399, 400), tuple(range(361, 401))]:
            for least in least_sums_the_long_way(purse)[1::9]:
                with self.subTest(purse=purse, least=least):
                    self.assertIs(makes(purse, least - purse[0]) if least > purse[0] else False, False)
                    self.assertIs(makes(purse, least), True)
                    self.assertIs(makes(purse, least + purse[0]), True)

    def test_the_greatest_sum_not_made(self):
        greatest = 399 * 400 - 399 - 400
        self.assertIs(makes((399, 400), greatest), False)
        self.assertIs(makes((399, 400), greatest + 1), True)
        self.assertIs(makes((6, 9, 20), 43), False)
        self.assertIs(makes((6, 9, 20), 44), True)

    def test_very_great_sums(self):
        told = [
            ((1,), 0, True), ((3, 5), 0, True), ((3, 5), 1, True), ((399, 400), 0, True), ((399, 400), 7, True),
            ((4, 6), 0, True), ((4, 6), 1, False), ((400,), 0, True), ((400,), 1, False), ((400,), -400, True),
            ((10, 25), 5, True), ((10, 25), 6, False), ((200, 400), -1, False), ((200, 400), 200, True),
        ]
        for purse, more, answer in told:
            with self.subTest(purse=purse, more=more):
                self.assertIs(makes(purse, GREAT + more), answer)

    def test_what_is_no_purse_is_refused(self):
        for place, thing in enumerate(NOT_PURSES):
            for number in [0, 8, GREAT]:
                with self.subTest(place=place):
                    with self.assertRaises(BadPurse) as caught:
                        makes(thing, number)
                    self.assertIs(type(caught.exception), BadPurse)

    def test_what_is_no_sum_is_refused(self):
        for purse in [(1,), (3, 5), (4, 6), (400,)]:
            for place, thing in enumerate(NOT_SUMS):
                with self.subTest(purse=purse, place=place):
                    with self.assertRaises(BadSum) as caught:
                        makes(purse, thing)
                    self.assertIs(type(caught.exception), BadSum)

    def test_of_both_the_purse_is_refused(self):
        for place, thing in enumerate(NOT_PURSES):
            for number_place, number in enumerate(NOT_SUMS):
                with self.subTest(place=place, number_place=number_place):
                    with self.assertRaises(BadPurse) as caught:
                        makes(thing, number)
                    self.assertIs(type(caught.exception), BadPurse)

    def test_what_is_refused_is_not_changed(self):
        purse, number = [5, 3], [5]
        with self.assertRaises(BadPurse):
            makes(purse, 5)
        with self.assertRaises(BadSum):
            makes((3, 5), number)
        self.assertEqual((purse, number), ([5, 3], [5]))


class SameSums(unittest.TestCase):
    def test_told_ones(self):
        told = [
            ((2, 3), (2, 3, 4, 5), True), ((2, 3), (2, 5), False), ((2,), (4,), False), ((2,), (2, 4), True),
            ((1,), tuple(range(1, 41)), True), ((1,), (1, 400), True), ((400,), (400,), True),
            ((399, 400), (400,), False), ((3, 5), (3, 5, 7), False), ((4, 6), (2,), False), ((200,), (200, 400), True),
            ((6, 9, 20), (6, 9, 20, 49), True),
            (tuple(range(361, 401)), tuple(range(361, 400)), False), ((3, 5, 9), (3, 5, 10), True),
        ]
        for one, other, answer in told:
            with self.subTest(one=one, other=other):
                self.assertIs(same_sums(one, other), answer)
                self.assertIs(same_sums(other, one), answer)

    def test_as_the_long_way(self):
        purses = [(purse, made_up_to(purse, 36)) for purse in small_purses(6)]
        for one, made_by_one in purses:
            for other, made_by_other in purses:
                with self.subTest(one=one, other=other):
                    self.assertIs(same_sums(one, other), made_by_one == made_by_other)

    def test_what_is_no_purse_is_refused(self):
        for place, thing in enumerate(NOT_PURSES):
            for one, other in [(thing, (3, 5)), ((3, 5), thing), (thing, thing), (thing, None), ((), thing)]:
                with self.subTest(place=place):
                    with self.assertRaises(BadPurse) as caught:
                        same_sums(one, other)
                    self.assertIs(type(caught.exception), BadPurse)


if __name__ == "__main__":
    unittest.main()
