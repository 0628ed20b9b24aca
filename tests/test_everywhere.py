"""What point 1 says of the whole program."""

import ast
import unittest
from pathlib import Path

from coinyard.errors import CoinError
from coinyard.purses import checked, divisor_of, least_purse, needless
from coinyard.sums import least_sums, makes, same_sums
from tests.samples import EDGE_PURSES, scattered_purses

PACKAGE = Path(__file__).resolve().parent.parent / "coinyard"
NAMES_THAT_REACH_OUT = ["open", "input", "print", "eval", "exec", "compile", "__import__", "globals", "vars"]


def answers(purse):
    return [
        checked(purse), divisor_of(purse), needless(purse), least_purse(purse), least_sums(purse),
        [makes(purse, number) for number in (0, 1, 7, 399, 400, 10 ** 30)], same_sums(purse, (3, 5)),
    ]


def spoil(told):
    for answer in told:
        if isinstance(answer, list):
            answer.reverse()
            answer.append(1)


class Everywhere(unittest.TestCase):
    def test_nothing_is_kept_between_calls(self):
        purses = EDGE_PURSES + scattered_purses()[::7]
        first = [answers(purse) for purse in purses]
        for purse in reversed(purses):
            spoil(answers(purse))
            for wrong in [(purse, -1), (list(purse), 5), (purse + (401,), 5)]:
                with self.assertRaises(CoinError):
                    makes(*wrong)
        self.assertEqual([answers(purse) for purse in purses], first)

    def test_a_purse_that_is_handed_in_stays_as_it_is(self):
        for purse in EDGE_PURSES:
            coins = list(purse)
            answers(purse)
            self.assertEqual(list(purse), coins)

    def test_no_clock_no_chance_no_files(self):
        files = sorted(PACKAGE.rglob("*.py"))
        self.assertTrue(files)
        for file in files:
            for node in ast.walk(ast.parse(file.read_text(encoding="utf-8"))):
                with self.subTest(file=file.name, line=getattr(node, "lineno", None)):
                    self.assertNotIsInstance(node, ast.Import)
                    if isinstance(node, ast.ImportFrom):
                        self.assertEqual(node.level, 0)
                        self.assertEqual(node.module.split(".")[0], "coinyard")
                    if isinstance(node, ast.Name):
                        self.assertNotIn(node.id, NAMES_THAT_REACH_OUT)


if __name__ == "__main__":
    unittest.main()
