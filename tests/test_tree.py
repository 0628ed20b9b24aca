import unittest
from itertools import combinations
from math import gcd

from coinyard.errors import BadPurse, BadSum, Endless, TooBig
from coinyard.gaps import gaps_of
from coinyard.purses import least_purse
from coinyard.tree import all_with, children_of, parent_of
from tests.samples import (
    EDGE_PURSES, NOT_PURSES, NOT_SUMS, answer, far_enough, gaps_the_long_way, greatest_gap_the_long_way, made_up_to,
    scattered_purses, small_purses, told_of_sums,
)

OF_A_PURSE = [parent_of, children_of]

# Their gaps end below some thousands, so that the long way is not too long.
SAMPLES = [
    (1,), (1, 9), (2, 3), (2, 399), (2, 397), (3, 5), (3, 203), (3, 203, 397), (3, 203, 400), (3, 397, 398), (3, 400),
    (4, 6), (5,), (6, 9, 20), (4, 5, 6, 7), (7, 11, 13), (11, 73, 119), (11, 84, 109), (4, 135), (5, 101), (10, 31),
    (20, 33, 47), (40, 41), (400,), (399, 400), tuple(range(39, 78)), tuple(range(40, 80)), tuple(range(100, 139)),
    tuple(range(100, 140)), tuple(range(361, 401)), tuple(range(322, 401, 2)), (3, 5, 8, 10, 400), (2, 3, 399, 400),
]


def parent_the_long_way(purse):
    if gcd(*purse) != 1:
        return "Endless"
    gaps = gaps_the_long_way(purse)
    if not gaps:
        return None
    made = made_up_to(purse, far_enough(gaps[-1]))
    made[gaps[-1]] = True
    return told_of_sums(made)


def is_made_of_two(made, number):
    return any(made[part] and made[number - part] for part in range(1, number // 2 + 1))


def children_the_long_way(purse):
    if gcd(*purse) != 1:
        return "Endless"
    greatest = greatest_gap_the_long_way(purse)
    made = made_up_to(purse, far_enough(max(greatest, purse[-1])))
    found = []
    # A sum that is two others can't be missed alone, and beyond the greatest coin each one is so.
    for number in range(greatest + 1, purse[-1] + 1):
        if not is_made_of_two(made, number):
            found.append(told_of_sums(made[:number] + [False] + made[number + 1:]))
    return "TooBig" if "TooBig" in found else sorted(found)


def all_with_the_long_way(many):
    # The greatest gap is less than twice the count of gaps: of two numbers that come to it, one is a gap.
    bound = 2 * many
    found = []
    for gaps in combinations(range(1, bound), many):
        made = [number not in gaps for number in range(2 * bound + 3)]
        if not any(is_made_of_two(made, gap) for gap in gaps):
            found.append(told_of_sums(made))
    return sorted(found)


class Refusals(unittest.TestCase):
    def refused(self, refusal, function, *handed):
        with self.assertRaises(refusal) as caught:
            function(*handed)
        self.assertIs(type(caught.exception), refusal)

    def test_what_is_no_purse_is_refused(self):
        for function in OF_A_PURSE:
            for place, thing in enumerate(NOT_PURSES):
                with self.subTest(function=function.__name__, place=place):
                    self.refused(BadPurse, function, thing)

    def test_a_divisor_other_than_1_is_refused(self):
        more = [(2,), (400,), (4, 6), (200, 400), (398, 400), (6, 10, 14), (20, 30, 45), tuple(range(322, 401, 2))]
        for function in OF_A_PURSE:
            for purse in more + [(coin,) for coin in range(2, 401)]:
                with self.subTest(function=function.__name__, purse=purse):
                    self.refused(Endless, function, purse)

    def test_of_both_the_purse_is_refused(self):
        both = [[4, 6], (6, 4), (4, 4), (0, 2), (-2, 4), (2, 402), (4, 6.0), (2, True), tuple(range(2, 84, 2)), ()]
        for function in OF_A_PURSE:
            for place, thing in enumerate(both):
                with self.subTest(function=function.__name__, place=place):
                    self.refused(BadPurse, function, thing)

    def test_what_is_refused_is_not_changed(self):
        for function in OF_A_PURSE:
            for thing, copy in [([5, 3, 3], [5, 3, 3]), ({5: 3}, {5: 3}), (([3],), ([3],)), ({5, 3}, {5, 3})]:
                with self.subTest(function=function.__name__, thing=copy):
                    self.refused(BadPurse, function, thing)
                    self.assertEqual(thing, copy)

    def test_how_many_gaps_are_refused(self):
        for place, many in enumerate(NOT_SUMS + [8, 9, 400, 10 ** 5000]):
            with self.subTest(place=place):
                self.refused(BadSum, all_with, many)


class Parent(unittest.TestCase):
    def test_told_ones(self):
        told = [
            ((2, 3), (1,)), ((2, 5), (2, 3)), ((3, 4, 5), (2, 3)), ((3, 5), (3, 5, 7)), ((3, 5, 8, 10), (3, 5, 7)),
            ((3, 4), (3, 4, 5)), ((3, 5, 7), (3, 4, 5)), ((4, 5, 6, 7), (3, 4, 5)), ((6, 9, 20), (6, 9, 20, 43)),
            ((2, 399), (2, 397)), ((4, 5, 11), (4, 5, 7)), (tuple(range(40, 80)), tuple(range(39, 78))),
        ]
        for purse, parent in told:
            with self.subTest(purse=purse):
                self.assertEqual(parent_of(purse), parent)
                self.assertIs(type(parent_of(purse)), tuple)

    def test_none_without_gaps(self):
        for purse in [(1,), (1, 2), (1, 400), (1, 7, 9), tuple(range(1, 41)), (1,) + tuple(range(362, 401))]:
            with self.subTest(purse=purse):
                self.assertIsNone(parent_of(purse))

    def test_as_the_long_way(self):
        for purse in SAMPLES + EDGE_PURSES + scattered_purses() + small_purses(9):
            with self.subTest(purse=purse):
                self.assertEqual(answer(parent_of, purse), parent_the_long_way(purse))

    def test_it_has_one_gap_less(self):
        for purse in small_purses(8):
            if gcd(*purse) == 1 and purse[0] > 1:
                with self.subTest(purse=purse):
                    self.assertEqual(gaps_of(parent_of(purse)), gaps_of(purse)[:-1])

    def test_a_coin_400(self):
        self.assertEqual(parent_of((11, 73, 119)), (11, 73, 119, 400))
        self.assertEqual(parent_of((12, 71, 135)), (12, 71, 135, 400))

    def test_a_coin_beyond_400_is_too_big(self):
        for purse in [(4, 135), (3, 202), (3, 400), (399, 400), (398, 399, 400), (20, 381)]:
            with self.subTest(purse=purse):
                with self.assertRaises(TooBig):
                    parent_of(purse)

    def test_40_and_41_coins(self):
        self.assertEqual(parent_of(tuple(range(100, 139))), tuple(range(100, 139)) + (299,))
        with self.assertRaises(TooBig):
            parent_of(tuple(range(100, 140)))


class Children(unittest.TestCase):
    def test_told_ones(self):
        told = [
            ((1,), [(2, 3)]), ((1, 400), [(2, 3)]), (tuple(range(1, 41)), [(2, 3)]), ((2, 3), [(2, 5), (3, 4, 5)]),
            ((2, 3, 4, 5, 400), [(2, 5), (3, 4, 5)]), ((2, 5), [(2, 7)]),
            ((3, 4, 5), [(3, 4), (3, 5, 7), (4, 5, 6, 7)]),
            ((3, 5), []), ((3, 4), []), ((6, 9, 20), []), ((399, 400), []), ((2, 397), [(2, 399)]),
            ((3, 5, 7), [(3, 5), (3, 7, 8)]), ((3, 7, 8), [(3, 7, 11), (3, 8, 10)]),
        ]
        for purse, children in told:
            with self.subTest(purse=purse):
                self.assertEqual(children_of(purse), children)
                self.assertIs(type(children_of(purse)), list)
                self.assertTrue(all(type(child) is tuple for child in children_of(purse)))

    def test_as_the_long_way(self):
        for purse in SAMPLES + EDGE_PURSES + scattered_purses() + small_purses(9):
            with self.subTest(purse=purse):
                self.assertEqual(answer(children_of, purse), children_the_long_way(purse))

    def test_the_parent_of_each_child_is_the_least_purse(self):
        seen = 0
        for purse in SAMPLES + scattered_purses() + small_purses(9):
            children = answer(children_of, purse)
            if isinstance(children, list):
                for child in children:
                    seen += 1
                    with self.subTest(purse=purse, child=child):
                        self.assertEqual(parent_of(child), least_purse(purse))
        self.assertGreater(seen, 500)

    def test_each_is_among_the_children_of_its_parent(self):
        for purse in small_purses(8):
            if gcd(*purse) == 1 and purse[0] > 1:
                with self.subTest(purse=purse):
                    self.assertIn(least_purse(purse), children_of(parent_of(purse)))

    def test_a_coin_400(self):
        self.assertEqual(children_of((3, 203, 397)), [(3, 203, 400)])

    def test_a_coin_beyond_400_is_too_big(self):
        # The last one has a child that is a purse beside one that is too big.
        for purse in [(2, 399), (3, 202, 398), (3, 203, 400), (3, 397, 398)]:
            with self.subTest(purse=purse):
                with self.assertRaises(TooBig):
                    children_of(purse)

    def test_40_and_41_coins(self):
        children = children_of(tuple(range(39, 78)))
        self.assertEqual(len(children), 39)
        self.assertEqual(children[-1], tuple(range(40, 80)))
        with self.assertRaises(TooBig):
            children_of(tuple(range(40, 80)))

    def test_the_list_is_new_each_time(self):
        first = children_of((2, 3))
        first.append(400)
        first[0] = 400
        self.assertEqual(children_of((2, 3)), [(2, 5), (3, 4, 5)])
        children_of((3, 5)).append(1)
        self.assertEqual(children_of((3, 5)), [])


class AllWith(unittest.TestCase):
    def test_told_ones(self):
        told = [
            (0, [(1,)]), (1, [(2, 3)]), (2, [(2, 5), (3, 4, 5)]), (3, [(2, 7), (3, 4), (3, 5, 7), (4, 5, 6, 7)]),
            (4, [(2, 9), (3, 5), (3, 7, 8), (4, 5, 6), (4, 5, 7), (4, 6, 7, 9), (5, 6, 7, 8, 9)]),
        ]
        for many, purses in told:
            with self.subTest(many=many):
                self.assertEqual(all_with(many), purses)
                self.assertIs(type(all_with(many)), list)
                self.assertTrue(all(type(purse) is tuple for purse in all_with(many)))

    def test_how_many_there_are(self):
        self.assertEqual([len(all_with(many)) for many in range(8)], [1, 1, 2, 4, 7, 12, 23, 39])

    def test_as_the_long_way(self):
        for many in range(8):
            with self.subTest(many=many):
                self.assertEqual(all_with(many), all_with_the_long_way(many))

    def test_each_is_least_and_has_so_many_gaps(self):
        for many in range(8):
            for purse in all_with(many):
                with self.subTest(purse=purse):
                    self.assertEqual(len(gaps_of(purse)), many)
                    self.assertEqual(least_purse(purse), purse)

    def test_the_list_is_new_each_time(self):
        for many in [0, 3, 7]:
            before = list(all_with(many))
            all_with(many).append(400)
            all_with(many).clear()
            self.assertEqual(all_with(many), before)


if __name__ == "__main__":
    unittest.main()
