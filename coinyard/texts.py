"""Texts: how a purse is written, and read again."""

from coinyard.errors import BadPurse, BadText
from coinyard.purses import checked

FIGURES = "0123456789"
MOST_FIGURES = 3


def shown(purse):
    return " ".join([str(coin) for coin in checked(purse)])


def is_number_in_figures(text):
    # No coin has more figures, and Python itself refuses to read a very long number.
    if not 1 <= len(text) <= MOST_FIGURES or text[0] == "0":
        return False
    # Not by isdigit: that takes the figures of other scripts, too.
    for sign in text:
        if sign not in FIGURES:
            return False
    return True


def read(text):
    if not isinstance(text, str):
        raise BadText("only a text is read")
    numbers = text.split(" ")
    for number in numbers:
        if not is_number_in_figures(number):
            raise BadText("a purse is written by coins in figures, no 0 ahead, a blank between")
    coins = tuple([int(number) for number in numbers])
    try:
        return checked(coins)
    except BadPurse:
        raise BadText("the coins of the text are no purse") from None
