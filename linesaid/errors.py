"""The refusals: each stands straight under SaidError, so that one can be taken without another one."""


class SaidError(ValueError):
    pass


class NoShare(SaidError):
    pass


class NoName(SaidError):
    pass


class NoRow(SaidError):
    pass


class NoStep(SaidError):
    pass


class NoText(SaidError):
    pass


class TooMany(SaidError):
    pass
