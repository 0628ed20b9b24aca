"""The refusals, each of a class of its own."""


class CoinError(ValueError):
    pass


class BadPurse(CoinError):
    pass


class BadSum(CoinError):
    pass


class Endless(CoinError):
    pass


class NoOne(CoinError):
    pass


class TooBig(CoinError):
    pass


class TooMany(CoinError):
    pass


class BadText(CoinError):
    pass
