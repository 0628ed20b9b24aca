"""The tree of purses: parent, children, and all least purses with so many gaps."""

from coinyard.errors import BadSum
from coinyard.gaps import greatest_gap
from coinyard.purses import is_whole, least_purse, least_purse_of

MOST_GAPS = 7


def parent_of(purse):
    greatest = greatest_gap(purse)
    if greatest is None:
        return None
    return least_purse_of(list(purse) + [greatest])


def without_sum(purse, coin):
    """The least purse that makes all sums of a least purse but one of its coins."""
    # A sum that takes the coin just once has another coin beside it; if it takes it more often,
    # twos and threes of it come to that.
    others = [other for other in purse if other != coin]
    return least_purse_of(others + [coin + other for other in purse] + [3 * coin])


def children_of(purse):
    greatest = greatest_gap(purse)
    # Only a coin of the least purse can be missed: any other sum but 0 is made of lesser ones.
    coins = least_purse(purse)
    return sorted([without_sum(coins, coin) for coin in coins if greatest is None or coin > greatest])


def all_with(many):
    if not is_whole(many) or not 0 <= many <= MOST_GAPS:
        raise BadSum(f"purses are told with 0 to {MOST_GAPS} gaps")
    found = [(1,)]
    for step in range(many):
        before = found
        found = []
        for purse in before:
            found.extend(children_of(purse))
    return sorted(found)
