"""The refusals, one class each."""


class FoldError(ValueError):
    pass


class BadFolds(FoldError):
    pass


class BadCrease(FoldError):
    pass


class BadSteps(FoldError):
    pass


class BadTurns(FoldError):
    pass
