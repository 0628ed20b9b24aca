"""Gaps: the sums that a purse does not make, where there are only so many."""

from coinyard.errors import Endless
from coinyard.purses import divisor_of
from coinyard.sums import is_reached, least_sums


def check_gaps_end(purse):
    # The purse itself is looked at by divisor_of, since BadPurse goes ahead of Endless.
    if divisor_of(purse) != 1:
        raise Endless("the divisor is not 1, so the gaps have no end")


def least_sums_of_every_rest(purse):
    check_gaps_end(purse)
    return least_sums(purse)


def gaps_of(purse):
    least = least_sums_of_every_rest(purse)
    # From the greatest of the least sums on, every sum is made.
    return [number for number in range(max(least)) if not is_reached(least, number)]


def greatest_gap(purse):
    least = least_sums_of_every_rest(purse)
    # Only a least coin 1 leaves no gaps: a greater one leaves at least the gap 1.
    if len(least) == 1:
        return None
    return max(least) - len(least)


def is_even(purse):
    gaps = gaps_of(purse)
    # Two made numbers never come to a gap, so of any two numbers in question one at least is a gap.
    # For all of them it is just one, if the gaps are half of the numbers from 0 to the greatest gap.
    # Where that is an even number, its half goes with itself: the numbers are odd in count then.
    return len(gaps) == 0 or 2 * len(gaps) == gaps[-1] + 1


def reaches_with_each(least, gap, purse):
    for coin in purse:
        if not is_reached(least, gap + coin):
            return False
    return True


def ends_of(purse):
    least = least_sums_of_every_rest(purse)
    # With the least coin, only the last gap of a rest comes to a made sum. The rest 0 has no gap.
    last_gaps = [start - len(least) for start in least if start > 0]
    return sorted([gap for gap in last_gaps if reaches_with_each(least, gap, purse)])
