"""The refusals: one class for each, all of them under ForerunError."""


class ForerunError(ValueError):
    pass


class NoNumber(ForerunError):
    pass


class NoTerm(ForerunError):
    pass


class NoDealing(ForerunError):
    def __init__(self, row):
        self.row = row


class Nought(ForerunError):
    pass


class Great(ForerunError):
    pass


class Folded(ForerunError):
    pass


class NoHand(ForerunError):
    pass


class NoOrder(ForerunError):
    pass


class NoLine(ForerunError):
    pass


class NoLog(ForerunError):
    pass
