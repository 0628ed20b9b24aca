"""Joins: two purses put together, the sums that both make, and a purse divided."""

from coinyard.errors import BadSum, TooBig
from coinyard.gaps import check_gaps_end
from coinyard.purses import GREATEST_COIN, checked, is_whole, least_purse_of
from coinyard.sums import is_reached, least_sums, least_sums_by

GREATEST_PARTS = 20


def made_by_either(one, other):
    checked(one)
    checked(other)
    return least_purse_of(list(one) + list(other))


def purse_of_least_sums(least):
    """The least purse with these least sums by a number that it makes; that is how many they are."""
    number = len(least)
    # A sum that is neither the number nor a least one is the number and another sum: no needed coin.
    purse = least_purse_of([number] + [start for start in least if 0 < start <= GREATEST_COIN])
    # If a needed coin lies beyond the greatest, some least sum is not made, or is made too late.
    if least_sums_by(number, purse) != least:
        raise TooBig(f"the least purse has a coin beyond {GREATEST_COIN}")
    return purse


def least_common_sum(one, other):
    least_of_one = least_sums(one)
    least_of_other = least_sums(other)
    for number in range(1, GREATEST_COIN + 1):
        if is_reached(least_of_one, number) and is_reached(least_of_other, number):
            return number
    raise TooBig(f"the least coin is beyond {GREATEST_COIN}")


def made_by_both(one, other):
    # Both purses are looked at before their gaps, since BadPurse goes ahead of Endless.
    checked(one)
    checked(other)
    check_gaps_end(one)
    check_gaps_end(other)
    # Both make the number: so of each rest by it, both make all sums from the later start on.
    number = least_common_sum(one, other)
    least_of_one = least_sums_by(number, one)
    least_of_other = least_sums_by(number, other)
    return purse_of_least_sums([max(start, another) for start, another in zip(least_of_one, least_of_other)])


def divided(purse, number):
    # The purse is looked at before the number, and that before the gaps, as the refusals go.
    checked(purse)
    if not is_whole(number) or not 1 <= number <= GREATEST_PARTS:
        raise BadSum(f"a purse is divided by a number from 1 to {GREATEST_PARTS}")
    check_gaps_end(purse)
    # The least coin is one of the numbers asked for, so their least ones by it tell them all.
    # Each of those, so many times, is a least sum of the purse by so many times the least coin.
    least = least_sums_by(number * purse[0], purse)
    return purse_of_least_sums([least[number * rest] // number for rest in range(purse[0])])
