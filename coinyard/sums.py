"""Sums: the least ones of a purse, and which ones it makes."""

from coinyard.errors import BadSum
from coinyard.purses import checked, common_divisor, is_whole, least_purse


def is_sum(thing):
    return is_whole(thing) and thing >= 0


def add_once(least, rest, coin):
    onward = (rest + coin) % len(least)
    if least[rest] is not None:
        reached = least[rest] + coin
        if least[onward] is None or reached < least[onward]:
            least[onward] = reached
    return onward


def add_coin_to_least(least, coin):
    # One coin taken again and again leads round a circle of rests. The first round comes by the
    # circle's least sum, wherever that is; the second carries it on to the rests passed before.
    circles = common_divisor(len(least), coin)
    steps = 2 * (len(least) // circles)
    for start in range(circles):
        rest = start
        for step in range(steps):
            rest = add_once(least, rest, coin)


def least_sums_by(number, coins):
    """For each rest by the number, the least sum that the coins make and that leaves it, or None."""
    least = [None] * number
    least[0] = 0
    for coin in coins:
        add_coin_to_least(least, coin)
    return least


def least_sums(purse):
    checked(purse)
    return least_sums_by(purse[0], purse[1:])


def is_reached(least, number):
    start = least[number % len(least)]
    return start is not None and number >= start


def makes(purse, number):
    # The purse is looked at before the number, since BadPurse goes ahead of BadSum.
    least = least_sums(purse)
    if not is_sum(number):
        raise BadSum("a sum is a whole number from 0 on")
    return is_reached(least, number)


def same_sums(one, other):
    # Purses that make the same sums have the same least purse, and only those.
    return least_purse(one) == least_purse(other)
