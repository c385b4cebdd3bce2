"""The refusals: each has a name of its own, and HallError takes them all."""


class HallError(ValueError):
    pass


class NoSeal(HallError):
    pass


class Unfit(HallError):
    pass


class TooLarge(HallError):
    pass


class NoThing(HallError):
    pass


class NoWord(HallError):
    pass
