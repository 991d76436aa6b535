"""The refusals of the program, each a class of its own under WeaveError."""


class WeaveError(ValueError):
    pass


class BadCloth(WeaveError):
    pass


class BadLoom(WeaveError):
    pass


class NoThread(WeaveError):
    pass


class TooBig(WeaveError):
    pass


class BadColours(WeaveError):
    pass


class BadText(WeaveError):
    pass
