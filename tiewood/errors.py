"""The refusals."""


class TieError(ValueError):
    pass


class NoCount(TieError):
    pass


class NoPlace(TieError):
    pass


class Alike(TieError):
    pass


class Joined(TieError):
    pass


class Tied(TieError):
    pass


class NoTie(TieError):
    pass


class NoRow(TieError):
    pass


class Fixed(TieError):
    pass
