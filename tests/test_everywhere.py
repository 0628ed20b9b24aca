"""What points 1 and 2 and the interface say of the whole program."""

import ast
import inspect
import unittest
from importlib import import_module
from pathlib import Path

from coinyard.errors import CoinError
from coinyard.gaps import ends_of, gaps_of, greatest_gap, is_even
from coinyard.greedy import by_greatest, first_fault
from coinyard.joins import divided, made_by_both, made_by_either
from coinyard.paying import a_way, all_ways, count_ways, fewest
from coinyard.purses import checked, divisor_of, least_purse, needless
from coinyard.sums import least_sums, makes, same_sums
from coinyard.texts import read, shown
from coinyard.tree import all_with, children_of, parent_of
from tests.samples import EDGE_PURSES, NOT_PURSES, NOT_SUMS, answer, scattered_purses

PACKAGE = Path(__file__).resolve().parent.parent / "coinyard"
NAMES_THAT_REACH_OUT = ["open", "input", "print", "eval", "exec", "compile", "__import__", "globals", "vars"]

INTERFACE = [
    ("purses", "checked", ["purse"]), ("purses", "divisor_of", ["purse"]), ("purses", "needless", ["purse"]),
    ("purses", "least_purse", ["purse"]), ("sums", "least_sums", ["purse"]), ("sums", "makes", ["purse", "number"]),
    ("sums", "same_sums", ["one", "other"]), ("gaps", "gaps_of", ["purse"]), ("gaps", "greatest_gap", ["purse"]),
    ("gaps", "is_even", ["purse"]), ("gaps", "ends_of", ["purse"]), ("paying", "fewest", ["purse", "number"]),
    ("paying", "a_way", ["purse", "number"]), ("paying", "count_ways", ["purse", "number"]),
    ("paying", "all_ways", ["purse", "number"]), ("greedy", "by_greatest", ["purse", "number"]),
    ("greedy", "first_fault", ["purse"]), ("joins", "made_by_either", ["one", "other"]),
    ("joins", "made_by_both", ["one", "other"]), ("joins", "divided", ["purse", "number"]),
    ("tree", "parent_of", ["purse"]), ("tree", "children_of", ["purse"]), ("tree", "all_with", ["many"]),
    ("texts", "shown", ["purse"]), ("texts", "read", ["text"]),
]

OF_A_PURSE = [
    checked, divisor_of, needless, least_purse, least_sums, gaps_of, greatest_gap, is_even, ends_of, first_fault,
    parent_of, children_of, shown,
]
OF_A_PURSE_AND_A_SUM = [makes, fewest, a_way, count_ways, all_ways, by_greatest, divided]
OF_TWO_PURSES = [same_sums, made_by_either, made_by_both]

# Each function that tells a list, with what is handed in; some of the lists are empty.
LISTS = [
    (needless, ((2, 3, 4, 5),)), (needless, ((3, 5),)), (least_sums, ((3, 5),)), (least_sums, ((4, 6),)),
    (least_sums, ((1,),)), (gaps_of, ((3, 5),)), (gaps_of, ((1,),)), (ends_of, ((3, 4, 5),)), (ends_of, ((1,),)),
    (all_ways, ((1, 3, 4), 6)), (all_ways, ((3, 5), 7)), (all_ways, ((3, 5), 0)), (children_of, ((2, 3),)),
    (children_of, ((1,),)), (children_of, ((3, 5),)), (all_with, (0,)), (all_with, (3,)), (all_with, (7,)),
]

# Where several refusals could be told: the one that the interface names first.
SEVERAL_AT_ONCE = [
    ("BadPurse", makes, ((), -1)), ("BadPurse", makes, ([3, 5], None)), ("BadPurse", same_sums, ((3, 5), (5, 3))),
    ("BadPurse", gaps_of, ((4, 402),)), ("BadPurse", greatest_gap, ((6, 4),)), ("BadPurse", is_even, ((2, 2),)),
    ("BadPurse", ends_of, ((0, 2),)), ("BadPurse", fewest, ((0, 2), 401)), ("BadPurse", a_way, ((2, 2), -1)),
    ("BadPurse", count_ways, ("3 5", "3")), ("BadPurse", all_ways, ((1, 2, 401), 401)),
    ("BadPurse", all_ways, ((2, 1), 400)), ("BadSum", all_ways, ((1, 2), 401)), ("TooMany", all_ways, ((1, 2), 400)),
    ("BadPurse", by_greatest, ((), True)), ("BadPurse", first_fault, ((2, 401),)), ("BadPurse", first_fault, ((3, 2),)),
    ("BadPurse", made_by_either, (tuple(range(361, 401)), tuple(range(320, 361)))),
    ("BadPurse", made_by_both, ((4, 6), (6, 4))), ("BadPurse", made_by_both, ((6, 4), (4, 6))),
    ("BadPurse", made_by_both, ((399, 400), (398, 401))), ("Endless", made_by_both, ((398, 400), (397, 399))),
    ("Endless", made_by_both, ((397, 399), (398, 400))), ("TooBig", made_by_both, ((397, 399), (398, 399))),
    ("BadPurse", divided, ((6, 4), 0)), ("BadPurse", divided, ([4, 6], 21)), ("BadPurse", divided, ((4, 402), 2)),
    ("BadSum", divided, ((4, 6), 0)), ("BadSum", divided, ((4, 6), 21)), ("BadSum", divided, ((102, 131, 162), 40)),
    ("Endless", divided, ((4, 6), 1)), ("Endless", divided, ((4, 6), 20)), ("TooBig", divided, ((102, 131, 162), 20)),
    ("BadPurse", parent_of, ((398, 402),)), ("Endless", parent_of, ((398, 400),)), ("TooBig", parent_of, ((399, 400),)),
    ("BadPurse", children_of, ((2, 400, 402),)), ("Endless", children_of, ((2, 400),)),
    ("TooBig", children_of, ((2, 399),)), ("BadPurse", shown, ("3 5",)), ("BadText", read, ((3, 5),)),
]


def answers(purse):
    told = [answer(function, purse) for function in OF_A_PURSE]
    for number in (0, 1, 7, 399, 400, 401, 10 ** 30):
        told += [answer(function, purse, number) for function in OF_A_PURSE_AND_A_SUM]
    for function in OF_TWO_PURSES:
        told += [answer(function, purse, (3, 5)), answer(function, (3, 5), purse)]
    return told + [answer(all_with, len(purse)), read(shown(purse))]


def spoil(told):
    for one in told:
        if isinstance(one, list):
            one.reverse()
            one.append(1)


class Everywhere(unittest.TestCase):
    def test_every_name_and_argument_is_there(self):
        for file, name, arguments in INTERFACE:
            with self.subTest(file=file, name=name):
                function = getattr(import_module(f"coinyard.{file}"), name)
                self.assertEqual(list(inspect.signature(function).parameters), arguments)
                self.assertEqual(function.__module__, f"coinyard.{file}")

    def test_every_function_is_tried_here(self):
        tried = OF_A_PURSE + OF_A_PURSE_AND_A_SUM + OF_TWO_PURSES + [all_with, read]
        self.assertEqual(sorted(function.__name__ for function in tried), sorted(name for file, name, _ in INTERFACE))

    def test_nothing_is_kept_between_calls(self):
        purses = EDGE_PURSES + scattered_purses()[::7]
        first = [answers(purse) for purse in purses]
        for purse in reversed(purses):
            spoil(answers(purse))
            for function in OF_A_PURSE_AND_A_SUM:
                for wrong in [(purse, -1), (list(purse), 5), (purse + (401,), 5)]:
                    with self.assertRaises(CoinError):
                        function(*wrong)
        self.assertEqual([answers(purse) for purse in purses], first)

    def test_lists_are_new_ones_each_time(self):
        for function, handed in LISTS:
            with self.subTest(function=function.__name__, handed=handed):
                first = function(*handed)
                self.assertIs(type(first), list)
                copy = list(first)
                second = function(*handed)
                self.assertIsNot(first, second)
                first.append("spoilt")
                first[0] = "spoilt"
                self.assertEqual(second, copy)
                second.clear()
                self.assertEqual(function(*handed), copy)

    def test_a_purse_that_is_handed_in_stays_as_it_is(self):
        for purse in EDGE_PURSES:
            coins = list(purse)
            answers(purse)
            self.assertEqual(list(purse), coins)

    def test_what_is_refused_stays_as_it_is(self):
        for thing, copy in [([5, 3, 3], [5, 3, 3]), ({5: 3}, {5: 3}), (([3], 2), ([3], 2)), ({5, 3}, {5, 3})]:
            for function in OF_A_PURSE + [all_with, read]:
                with self.subTest(function=function.__name__, thing=copy):
                    self.assertIn(answer(function, thing), ["BadPurse", "BadSum", "BadText"])
                    self.assertEqual(thing, copy)
            for function in OF_A_PURSE_AND_A_SUM + OF_TWO_PURSES:
                with self.subTest(function=function.__name__, thing=copy):
                    self.assertEqual(answer(function, thing, (3, 5)), "BadPurse")
                    self.assertIn(answer(function, (3, 5), thing), ["BadPurse", "BadSum"])
                    self.assertEqual(thing, copy)

    def test_what_is_no_purse_is_refused_by_every_function_ahead_of_all_else(self):
        for place, thing in enumerate(NOT_PURSES):
            with self.subTest(place=place):
                for function in OF_A_PURSE:
                    self.assertEqual(answer(function, thing), "BadPurse", function.__name__)
                for function in OF_A_PURSE_AND_A_SUM:
                    for number in [5, 400, 401, -1, True, None, "5", thing]:
                        self.assertEqual(answer(function, thing, number), "BadPurse", function.__name__)
                for function in OF_TWO_PURSES:
                    for purse in [(3, 5), (4, 6), (399, 400), thing]:
                        self.assertEqual(answer(function, thing, purse), "BadPurse", function.__name__)
                        self.assertEqual(answer(function, purse, thing), "BadPurse", function.__name__)

    def test_what_is_no_sum_is_refused_by_every_function(self):
        for place, thing in enumerate(NOT_SUMS):
            with self.subTest(place=place):
                for function in OF_A_PURSE_AND_A_SUM:
                    for purse in [(3, 5), (4, 6), (1, 2, 3), (399, 400)]:
                        self.assertEqual(answer(function, purse, thing), "BadSum", function.__name__)
                self.assertEqual(answer(all_with, thing), "BadSum")

    def test_of_several_refusals_the_first_is_told(self):
        for refusal, function, handed in SEVERAL_AT_ONCE:
            with self.subTest(function=function.__name__, handed=handed):
                self.assertEqual(answer(function, *handed), refusal)

    def test_true_and_false_are_no_numbers(self):
        for truth in [True, False]:
            for function in OF_A_PURSE:
                for purse in [(truth,), (truth, 2), (1, truth)]:
                    with self.subTest(function=function.__name__, purse=purse):
                        self.assertEqual(answer(function, purse), "BadPurse")
            for function in OF_A_PURSE_AND_A_SUM:
                with self.subTest(function=function.__name__, truth=truth):
                    self.assertEqual(answer(function, (1, 2), truth), "BadSum")
                    self.assertEqual(answer(function, (truth, 2), 2), "BadPurse")
            for function in OF_TWO_PURSES:
                with self.subTest(function=function.__name__, truth=truth):
                    self.assertEqual(answer(function, (truth, 2), (1, 2)), "BadPurse")
                    self.assertEqual(answer(function, (1, 2), (truth, 2)), "BadPurse")
            self.assertEqual(answer(all_with, truth), "BadSum")
            self.assertEqual(answer(read, truth), "BadText")

    def test_no_clock_no_chance_no_files(self):
        files = sorted(PACKAGE.rglob("*.py"))
        self.assertTrue(files)
        for file in files:
            for node in ast.walk(ast.parse(file.read_text(encoding="utf-8"))):
                with self.subTest(file=file.name, line=getattr(node, "lineno", None)):
                    self.assertNotIsInstance(node, ast.Import)
                    if isinstance(node, ast.ImportFrom):
                        self.assertEqual(node.level, 0)
                        self.assertEqual(node.module.split(".")[0], "coinyard")
                    if isinstance(node, ast.Name):
                        self.assertNotIn(node.id, NAMES_THAT_REACH_OUT)


if __name__ == "__main__":
    unittest.main()
