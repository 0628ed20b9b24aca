"""What point 1 says of the whole program."""

import ast
import unittest
from pathlib import Path

from coinyard.errors import CoinError
from coinyard.gaps import ends_of, gaps_of, greatest_gap, is_even
from coinyard.greedy import by_greatest, first_fault
from coinyard.paying import a_way, all_ways, count_ways, fewest
from coinyard.purses import checked, divisor_of, least_purse, needless
from coinyard.sums import least_sums, makes, same_sums
from tests.samples import EDGE_PURSES, scattered_purses

PACKAGE = Path(__file__).resolve().parent.parent / "coinyard"
NAMES_THAT_REACH_OUT = ["open", "input", "print", "eval", "exec", "compile", "__import__", "globals", "vars"]


OF_A_PURSE = [
    checked, divisor_of, needless, least_purse, least_sums, gaps_of, greatest_gap, is_even, ends_of, first_fault,
]
OF_A_PURSE_AND_A_SUM = [makes, fewest, a_way, count_ways, all_ways, by_greatest]


def answer(function, *handed):
    try:
        return function(*handed)
    except CoinError as refusal:
        return type(refusal).__name__


def answers(purse):
    told = [answer(function, purse) for function in OF_A_PURSE]
    for number in (0, 1, 7, 399, 400, 401, 10 ** 30):
        told += [answer(function, purse, number) for function in OF_A_PURSE_AND_A_SUM]
    return told + [answer(same_sums, purse, (3, 5))]


def spoil(told):
    for one in told:
        if isinstance(one, list):
            one.reverse()
            one.append(1)


class Everywhere(unittest.TestCase):
    def test_nothing_is_kept_between_calls(self):
        purses = EDGE_PURSES + scattered_purses()[::7]
        first = [answers(purse) for purse in purses]
        for purse in reversed(purses):
            spoil(answers(purse))
            for function in OF_A_PURSE_AND_A_SUM:
                for wrong in [(purse, -1), (list(purse), 5), (purse + (401,), 5)]:
                    with self.assertRaises(CoinError):
                        function(*wrong)
        self.assertEqual([answers(purse) for purse in purses], first)

    def test_a_purse_that_is_handed_in_stays_as_it_is(self):
        for purse in EDGE_PURSES:
            coins = list(purse)
            answers(purse)
            self.assertEqual(list(purse), coins)

    def test_true_and_false_are_no_numbers(self):
        for truth in [True, False]:
            for function in OF_A_PURSE:
                for purse in [(truth,), (truth, 2), (1, truth)]:
                    with self.subTest(function=function.__name__, purse=purse):
                        self.assertEqual(answer(function, purse), "BadPurse")
            for function in OF_A_PURSE_AND_A_SUM:
                with self.subTest(function=function.__name__, truth=truth):
                    self.assertEqual(answer(function, (1, 2), truth), "BadSum")
                    self.assertEqual(answer(function, (truth, 2), 2), "BadPurse")

    def test_no_clock_no_chance_no_files(self):
        files = sorted(PACKAGE.rglob("*.py"))
        self.assertTrue(files)
        for file in files:
            for node in ast.walk(ast.parse(file.read_text(encoding="utf-8"))):
                with self.subTest(file=file.name, line=getattr(node, "lineno", None)):
                    self.assertNotIsInstance(node, ast.Import)
                    if isinstance(node, ast.ImportFrom):
                        self.assertEqual(node.level, 0)
                        self.assertEqual(node.module.split(".")[0], "coinyard")
                    if isinstance(node, ast.Name):
                        self.assertNotIn(node.id, NAMES_THAT_REACH_OUT)


if __name__ == "__main__":
    unittest.main()
