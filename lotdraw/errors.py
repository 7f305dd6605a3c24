"""Refusals: one base, the others each straight under it."""


class LotError(ValueError):
    pass


class NoNumber(LotError):
    pass


class NoPlan(LotError):
    pass


class TooLong(LotError):
    pass


class NoText(LotError):
    pass


class NoEnd(LotError):
    pass


class TooMany(LotError):
    pass


class NoRow(LotError):
    pass


class NoTelling(LotError):
    pass


class NoLot(LotError):
    pass


class NotOnly(LotError):
    pass


class Only(LotError):
    pass


class NoShares(LotError):
    pass


class NoDeed(LotError):
    pass


class NoName(LotError):
    pass


class NoDraw(LotError):
    pass
