"""The refusals, one class each."""


class ColumnError(ValueError):
    pass


class NoPage(ColumnError):
    pass


class NoSpacing(ColumnError):
    pass


class NoCut(ColumnError):
    pass


class OnlyLine(ColumnError):
    pass


class NoLine(ColumnError):
    pass


class NoColumn(ColumnError):
    pass


class Full(ColumnError):
    pass


class NoText(ColumnError):
    pass
