import unittest

from coinyard.errors import BadPurse, BadText
from coinyard.texts import read, shown
from tests.samples import EDGE_PURSES, NOT_PURSES, OTHER_KINDS, scattered_purses, small_purses

FORTY = tuple(range(361, 401))
PURSES = EDGE_PURSES + scattered_purses() + small_purses(8) + [(coin,) for coin in range(1, 401)]

TOLD = [
    ((1,), "1"), ((9,), "9"), ((10,), "10"), ((99,), "99"), ((100,), "100"), ((400,), "400"), ((3, 5), "3 5"),
    ((6, 9, 20), "6 9 20"), ((1, 10, 100), "1 10 100"), ((9, 10, 99, 100, 399, 400), "9 10 99 100 399 400"),
    (tuple(range(1, 41)), "1 2 3 4 5 6 7 8 9 10 11 12 13 14 15 16 17 18 19 20 "
                          "21 22 23 24 25 26 27 28 29 30 31 32 33 34 35 36 37 38 39 40"),
]

# The blank signs of other scripts and uses, as Python's own split or strip would take them.
BLANKS = [
    "\t", "\n", "\r", "\r\n", "\x0b", "\x0c", "\x1c", "\x1d", "\x1e", "\x1f", "\x85", "\xa0", "\u1680", "\u2000",
    "\u2003", "\u2009", "\u200a", "\u2028", "\u2029", "\u202f", "\u205f", "\u3000", "\u200b", "\ufeff", "\0",
]

# Three and five in the figures of other scripts, raised, lowered, in circles, in full width.
OTHER_FIGURES = [
    "\u0663", "\u06f5", "\u0969", "\u0e53", "\uff13", "\uff13\uff15", "\u00b3", "\u2075", "\u2083", "\u2462", "\u00bd",
    "\u4e09", "\u2162", "\U0001d7d1", "3\u0665", "\u06633", "1\u00b2", "\ud800",
]

WRONG_COINS = [
    "0", "00", "03", "007", "000", "0003", "+3", "-3", "--3", "3-", "3+", "3.0", "3.", ".3", "3,", "3_0", "1_0", "0x3",
    "1e2", "a", "3a", "a3", "three", "III", "401", "402", "999", "1000", "4000", "0400", "10 ** 2", "(3", "3)", "'3'",
    "None", "True", "nan", "inf", "9" * 4299, "9" * 4301, "1" + "0" * 10000, "0" * 5000 + "3", "3" * 100000,
]

BLANKS_AMISS = [
    "", " ", "  ", " 3", "3 ", "  3", "3  ", " 3 ", " 3 5", "3 5 ", "3  5", "3   5", "3 5  7", " 3 5 ", "3 5 7 ",
    " " * 40,
]

NOT_WRITTEN_SO = ["(3, 5)", "[3, 5]", "(3,)", "3,5", "3, 5", "3;5", "3-5", "3/5", "3 and 5", "3 5.", "#3 5", "3 5 #"]

NO_PURSES_IN_FIGURES = [
    "5 3", "3 3", "1 1", "3 5 4", "3 5 5", "10 9", "400 1", "2 10 9", "100 20 3", "400 400", "1 401", "400 401",
    "3 1000",
    " ".join(str(coin) for coin in range(1, 42)), " ".join(str(coin) for coin in range(360, 401)),
    " ".join(str(coin) for coin in range(1, 401)), " ".join(["3"] * 41), " ".join(["3"] * 100000),
]

NO_TEXTS = [thing for thing in OTHER_KINDS if not isinstance(thing, str)] + [
    b"3 5", bytearray(b"3 5"), ("3 5",), ["3 5"], ("3", "5"), (3, 5), {"3 5": "3 5"}, {"3 5"}, str, 35, 3.5,
]


class Shown(unittest.TestCase):
    def test_told_ones(self):
        for purse, text in TOLD:
            with self.subTest(purse=purse):
                self.assertEqual(shown(purse), text)
                self.assertIs(type(shown(purse)), str)

    def test_forty_coins(self):
        text = (
            "361 362 363 364 365 366 367 368 369 370 371 372 373 374 375 376 377 378 379 380 "
            "381 382 383 384 385 386 387 388 389 390 391 392 393 394 395 396 397 398 399 400"
        )
        self.assertEqual(shown(FORTY), text)
        self.assertEqual(read(text), FORTY)

    def test_what_is_no_purse_is_refused(self):
        for place, thing in enumerate(NOT_PURSES + ["3 5", ("3 5",), ("3", "5")]):
            with self.subTest(place=place):
                with self.assertRaises(BadPurse) as caught:
                    shown(thing)
                self.assertIs(type(caught.exception), BadPurse)

    def test_needless_coins_are_shown(self):
        self.assertEqual(shown((1, 2, 4)), "1 2 4")
        self.assertEqual(shown((2, 3, 4, 5)), "2 3 4 5")


class Read(unittest.TestCase):
    def refused(self, text):
        with self.assertRaises(BadText) as caught:
            read(text)
        self.assertIs(type(caught.exception), BadText)

    def test_told_ones(self):
        for purse, text in TOLD:
            with self.subTest(text=text):
                self.assertEqual(read(text), purse)
                self.assertIs(type(read(text)), tuple)
                self.assertTrue(all(type(coin) is int for coin in read(text)))

    def test_what_is_shown_is_read_to_the_same_purse(self):
        for purse in PURSES:
            with self.subTest(purse=purse):
                self.assertEqual(read(shown(purse)), purse)

    def test_what_is_no_text_is_refused(self):
        for place, thing in enumerate(NO_TEXTS):
            with self.subTest(place=place):
                self.refused(thing)

    def test_blanks_amiss_are_refused(self):
        for text in BLANKS_AMISS:
            with self.subTest(text=text):
                self.refused(text)

    def test_other_blanks_are_refused(self):
        for blank in BLANKS:
            between = [f"3{blank}5", f"3 {blank}5", f"3{blank} 5", f"3 {blank} 5"]
            for text in [blank, blank + "3 5", "3 5" + blank] + between:
                with self.subTest(text=ascii(text)):
                    self.refused(text)

    def test_other_figures_are_refused(self):
        for figures in OTHER_FIGURES:
            for text in [figures, f"2 {figures}", f"{figures} 7", f"2 {figures} 9"]:
                with self.subTest(text=ascii(text)):
                    self.refused(text)

    def test_wrong_coins_are_refused(self):
        for coin in WRONG_COINS:
            for text in [coin, f"1 {coin}", f"{coin} 400", f"1 {coin} 400"]:
                with self.subTest(text=text[:40]):
                    self.refused(text)

    def test_another_way_to_write_is_refused(self):
        for text in NOT_WRITTEN_SO:
            with self.subTest(text=text):
                self.refused(text)

    def test_figures_that_are_no_purse_are_refused(self):
        for text in NO_PURSES_IN_FIGURES:
            with self.subTest(text=text[:40]):
                self.refused(text)

    def test_the_greatest_that_are_read(self):
        self.assertEqual(read("400"), (400,))
        self.assertEqual(read(" ".join(str(coin) for coin in FORTY)), FORTY)

    def test_all_short_texts(self):
        # Each text of up to four of these signs is read just if it is the text of a purse.
        signs = "0139 -"
        texts = [""]
        for length in range(4):
            texts += [text + sign for text in texts if len(text) == length for sign in signs]
        written = {" ".join(str(coin) for coin in purse): purse for purse in short_purses()}
        for text in texts:
            with self.subTest(text=text):
                if text in written:
                    self.assertEqual(read(text), written[text])
                else:
                    self.refused(text)


def short_purses():
    """All purses of one coin, and all of two coins with three figures at most."""
    found = [(coin,) for coin in range(1, 401)]
    return found + [(one, other) for one in range(1, 10) for other in range(one + 1, 100)]


if __name__ == "__main__":
    unittest.main()
