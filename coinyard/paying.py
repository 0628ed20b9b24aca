"""Paying: how few coins do for a sum, and in which ways it is paid."""

from coinyard.errors import BadSum, TooMany
from coinyard.purses import add_coin, checked
from coinyard.sums import is_sum

GREATEST_PAID = 400
MOST_WAYS = 200


def check_payment(purse, number):
    # The purse is looked at before the number, since BadPurse goes ahead of BadSum.
    checked(purse)
    if not is_sum(number) or number > GREATEST_PAID:
        raise BadSum(f"sums from 0 to {GREATEST_PAID} are paid")


def fewest_up_to(purse, bound):
    few = [0] + [None] * bound
    for coin in purse:
        # Upwards, so that a sum paid with the coin can take the coin again.
        for number in range(coin, bound + 1):
            before = few[number - coin]
            if before is not None and (few[number] is None or before + 1 < few[number]):
                few[number] = before + 1
    return few


def fewest(purse, number):
    check_payment(purse, number)
    return fewest_up_to(purse, number)[number]


def a_way(purse, number):
    check_payment(purse, number)
    few = fewest_up_to(purse, number)
    if few[number] is None:
        return None
    taken = [0] * len(purse)
    left = number
    # No coin is tried twice: one that is in no best way to pay what is left is in none later on.
    for place, coin in enumerate(purse):
        while left >= coin and few[left - coin] == few[left] - 1:
            taken[place] = taken[place] + 1
            left = left - coin
    return tuple(taken)


def count_ways(purse, number):
    check_payment(purse, number)
    ways = [1] + [0] * number
    # Coin by coin, so that the same coins in another order don't count again.
    for coin in purse:
        for paid in range(coin, number + 1):
            ways[paid] = ways[paid] + ways[paid - coin]
    return ways[number]


def made_by_the_later(purse, number):
    """For each place of the purse, which sums up to the number the coins behind it make."""
    made = [True] + [False] * number
    found = []
    for coin in reversed(purse):
        found.append(list(made))
        add_coin(made, coin)
    return list(reversed(found))


def with_one_more(begun, coin, made):
    # A beginning that the later coins can't end is dropped: so there are never more beginnings
    # than ways.
    found = []
    for taken, left in begun:
        for times in range(left // coin + 1):
            if made[left - times * coin]:
                found.append((taken + (times,), left - times * coin))
    return found


def all_ways(purse, number):
    if count_ways(purse, number) > MOST_WAYS:
        raise TooMany(f"there are more than {MOST_WAYS} ways")
    # Each beginning of a way stands with what is left to pay; they rise, and stay rising.
    begun = [((), number)]
    for coin, made in zip(purse, made_by_the_later(purse, number)):
        begun = with_one_more(begun, coin, made)
    return [taken for taken, left in begun]
