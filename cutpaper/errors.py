"""The errors with which the program refuses what it is handed."""


class CutError(ValueError):
    pass


class BadStep(CutError):
    def __init__(self, line):
        self.line = line


class NoRow(CutError):
    pass
