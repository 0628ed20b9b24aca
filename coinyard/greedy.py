"""The greatest coin first: what it pays, and where it first takes too many coins."""

from coinyard.errors import NoOne
from coinyard.paying import check_payment, fewest_up_to
from coinyard.purses import checked


def taken_by_greatest(purse, number):
    taken = []
    left = number
    for coin in reversed(purse):
        taken.append(left // coin)
        left = left % coin
    if left > 0:
        return None
    return tuple(reversed(taken))


def by_greatest(purse, number):
    check_payment(purse, number)
    return taken_by_greatest(purse, number)


def first_fault(purse):
    checked(purse)
    if purse[0] != 1:
        raise NoOne("the purse has no coin 1")
    # The least fault has the greatest coin in none of its best ways: without that coin it would be
    # a lesser fault. Take any coin of a best way away: what is left is no fault, so were it no less
    # than the greatest coin, some best way would have that coin. So the least fault is less than
    # the greatest coin and another one together.
    bound = sum(purse[-2:])
    few = fewest_up_to(purse, bound)
    for number in range(bound):
        if sum(taken_by_greatest(purse, number)) > few[number]:
            return number
    return None
