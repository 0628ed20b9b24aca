"""Purses: what is one, its divisor, its needless coins, its least purse."""

from coinyard.errors import BadPurse, TooBig

MOST_COINS = 40
GREATEST_COIN = 400


def is_whole(thing):
    # Python counts True and False among the whole numbers, the document does not.
    return isinstance(thing, int) and not isinstance(thing, bool)


def common_divisor(one, other):
    while other != 0:
        rest = one % other
        one = other
        other = rest
    return one


def checked(purse):
    # The errors never show what was handed in: a number may have too many figures to be shown.
    if not isinstance(purse, tuple):
        raise BadPurse("a purse is a tuple of coins")
    if not 1 <= len(purse) <= MOST_COINS:
        raise BadPurse(f"a purse has 1 to {MOST_COINS} coins")
    before = 0
    for coin in purse:
        if not is_whole(coin):
            raise BadPurse("a coin is a whole number")
        if not before < coin <= GREATEST_COIN:
            raise BadPurse(f"coins go from 1 to {GREATEST_COIN}, rising, none twice")
        before = coin
    return purse


def divisor_of(purse):
    divisor = 0
    for coin in checked(purse):
        divisor = common_divisor(divisor, coin)
    return divisor


def add_coin(made, coin):
    # Upwards, so that a sum made with the coin can take the coin again.
    for number in range(coin, len(made)):
        if made[number - coin]:
            made[number] = True


def needed_of(coins):
    """Of rising coins, however many and great, those that the others don't make."""
    made = [True] + [False] * coins[-1]
    found = []
    for coin in coins:
        # Only lesser coins can come to a coin, and the coins rise: all of them are in by now.
        if not made[coin]:
            found.append(coin)
            add_coin(made, coin)
    return found


def needless(purse):
    needed = needed_of(checked(purse))
    return [coin for coin in purse if coin not in needed]


def least_purse(purse):
    return tuple(needed_of(checked(purse)))


def least_purse_of(coins):
    """The least purse of coins in any order, however many and great, where that is a purse."""
    needed = needed_of(sorted(coins))
    if len(needed) > MOST_COINS or needed[-1] > GREATEST_COIN:
        raise TooBig(f"the least purse has more than {MOST_COINS} coins or one beyond {GREATEST_COIN}")
    return tuple(needed)
