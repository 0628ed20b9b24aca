"""Purses: what is one, its divisor, its needless coins, its least purse."""

from coinyard.errors import BadPurse

MOST_COINS = 40
GREATEST_COIN = 400


def is_whole(thing):
    # Python counts True and False among the whole numbers, the document does not.
    return isinstance(thing, int) and not isinstance(thing, bool)


def common_divisor(one, other):
    while other != 0:
        rest = one % other
        one = other
        other = rest
    return one


def checked(purse):
    # The errors never show what was handed in: a number may have too many figures to be shown.
    if not isinstance(purse, tuple):
        raise BadPurse("a purse is a tuple of coins")
    if not 1 <= len(purse) <= MOST_COINS:
        raise BadPurse(f"a purse has 1 to {MOST_COINS} coins")
    before = 0
    for coin in purse:
        if not is_whole(coin):
            raise BadPurse("a coin is a whole number")
        if not before < coin <= GREATEST_COIN:
            raise BadPurse(f"coins go from 1 to {GREATEST_COIN}, rising, none twice")
        before = coin
    return purse


def divisor_of(purse):
    divisor = 0
    for coin in checked(purse):
        divisor = common_divisor(divisor, coin)
    return divisor


def add_coin(made, coin):
    # Upwards, so that a sum made with the coin can take the coin again.
    for number in range(coin, len(made)):
        if made[number - coin]:
            made[number] = True


def needless(purse):
    checked(purse)
    made = [True] + [False] * purse[-1]
    found = []
    for coin in purse:
        # Only lesser coins can come to a coin, and the purse rises: all of them are in by now.
        if made[coin]:
            found.append(coin)
        else:
            add_coin(made, coin)
    return found


def least_purse(purse):
    left_out = needless(purse)
    return tuple([coin for coin in purse if coin not in left_out])
