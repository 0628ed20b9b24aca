"""What several tests share: purses, things that are none, and sums found the long way."""

from decimal import Decimal
from fractions import Fraction
from itertools import combinations

from coinyard.errors import CoinError


class Touchy:
    """A thing that can be neither shown, compared, counted nor walked."""

    def refuse(self, *others):
        raise RuntimeError("touched")

    __repr__ = __str__ = __eq__ = __lt__ = __le__ = __gt__ = __ge__ = refuse
    __len__ = __iter__ = __bool__ = __getitem__ = __index__ = __mod__ = refuse
    __hash__ = object.__hash__


OTHER_KINDS = [
    None, True, False, 0, 5, -5, 10 ** 5000, 2.5, float("nan"), 3 + 0j, "", "3", "3 5", b"\x03\x05",
    [], [3], [3, 5], [5, 3], {}, {3: 5}, set(), {3, 5}, frozenset([3, 5]), range(3, 6), iter((3, 5)),
    object(), Touchy(), tuple, len, Fraction(3), Decimal(3),
]

NO_COINS_OF_A_PURSE = [
    True, False, None, 3.0, 3.5, float("nan"), float("inf"), 3 + 0j, "3", "", b"3", (), (3,), [3], {3: 3}, {3},
    object(), Touchy(), int, Fraction(3), Decimal(3),
]

NOT_PURSES = (
    OTHER_KINDS
    + [(coin,) for coin in NO_COINS_OF_A_PURSE]
    + [(2, coin) for coin in NO_COINS_OF_A_PURSE]
    + [(coin, 7) for coin in NO_COINS_OF_A_PURSE]
    + [
        (), tuple(range(1, 42)), tuple(range(360, 401)), tuple(range(1, 401)), (3,) * 41,
        (0,), (0, 3), (3, 0), (-1,), (-3, 5), (5, -3), (401,), (1, 401), (400, 401), (401, 402),
        (10 ** 5000,), (1, 10 ** 5000), (-10 ** 5000,),
        (5, 3), (3, 5, 4), (400, 1), (3, 3), (1, 2, 2), (1, 1, 2), (400, 400), (2, 3, 2),
    ]
)

NOT_SUMS = [
    -1, -2, -400, -10 ** 5000, True, False, None, 0.0, 5.0, 2.5, float("nan"), float("inf"), 3 + 0j,
    "", "0", "5", b"5", (), (5,), [], [5], {}, {5: 5}, {5}, range(5), object(), Touchy(), int, Fraction(5), Decimal(5),
]

NOT_PAID = NOT_SUMS + [401, 402, 800, 10 ** 5000]

EDGE_PURSES = [
    (1,), (2,), (7,), (400,), (1, 400), (399, 400), (2, 400), (200, 400), (3, 399), (398, 400),
    tuple(range(1, 41)), tuple(range(361, 401)), tuple(range(10, 401, 10)), tuple(range(2, 81, 2)),
    tuple(range(40, 80)), tuple(range(322, 401, 2)),
]


def answer(function, *handed):
    """What a function tells, or the name of its refusal."""
    try:
        return function(*handed)
    except CoinError as refusal:
        return type(refusal).__name__


def small_purses(greatest):
    coins = range(1, greatest + 1)
    return [purse for many in coins for purse in combinations(coins, many)]


def scattered_purses():
    found = []
    for start in range(1, 61):
        coins = {(start * 37 + step * step * 61 + step * 13) % 400 + 1 for step in range(1 + start % 40)}
        found.append(tuple(sorted(coins)))
    return found


def made_up_to(coins, bound):
    """The sums up to the bound that the coins make, as a list of True and False."""
    bits = 1
    for coin in coins:
        # Shifts by 1, 2, 4, .. times the coin come to every number of times.
        shift = coin
        while shift <= bound:
            bits |= bits << shift
            shift *= 2
    figures = bin(bits)[2:][::-1].ljust(bound + 1, "0")
    return [figure == "1" for figure in figures[:bound + 1]]


def least_sums_the_long_way(purse):
    # A least sum takes fewer coins than the least coin is worth: else some of them come to a
    # multiple of it and could be left out.
    bound = purse[0] * purse[-1]
    found = [None] * purse[0]
    for number, is_made in enumerate(made_up_to(purse, bound)):
        if is_made and found[number % purse[0]] is None:
            found[number % purse[0]] = number
    return found


def needless_the_long_way(purse):
    found = []
    for coin in purse:
        others = [other for other in purse if other != coin]
        if made_up_to(others, coin)[coin]:
            found.append(coin)
    return found


def gaps_the_long_way(purse):
    # Beyond the bound every sum is made, if the divisor is 1.
    made = made_up_to(purse, purse[0] * purse[-1])
    return [number for number, is_made in enumerate(made) if not is_made]


def fewest_the_long_way(purse, bound):
    """For each sum up to the bound the fewest coins that make it, or None."""
    found = [None] * (bound + 1)
    found[0] = 0
    reached, many = [0], 0
    while reached:
        many += 1
        reached = sorted({number + coin for number in reached for coin in purse if number + coin <= bound})
        reached = [number for number in reached if found[number] is None]
        for number in reached:
            found[number] = many
    return found


def by_greatest_the_long_way(purse, number):
    taken = [0] * len(purse)
    while any(coin <= number for coin in purse):
        coin = max(coin for coin in purse if coin <= number)
        taken[purse.index(coin)] += 1
        number -= coin
    return tuple(taken) if number == 0 else None


def value_of(purse, way):
    return sum(coin * times for coin, times in zip(purse, way, strict=True))


def greatest_gap_the_long_way(purse):
    return max(gaps_the_long_way(purse), default=0)


def coins_of_sums(made):
    """Of a list of True and False, where sums stay sums if put together: those above 0 that are no
    two lesser ones together."""
    bits = int("".join(str(int(is_made)) for is_made in reversed(made[1:])) + "0", 2)
    found = []
    left = bits
    while left:
        lowest = left & -left
        found.append(lowest.bit_length() - 1)
        left &= ~lowest & ~(bits << found[-1])
    return found


def told_of_sums(made):
    """The least purse that makes these sums, or TooBig; the list goes on as far as a coin may be needed."""
    coins = coins_of_sums(made)
    return "TooBig" if len(coins) > 40 or coins[-1] > 400 else tuple(coins)


def far_enough(greatest):
    # From the one sum behind the greatest gap on, all are made; so each sum from twice that on is that
    # one and another, or two lesser ones.
    return 2 * (greatest + 1) + 1
