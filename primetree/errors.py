"""The refusals of the program: one class for each, all straight under TreeError."""


class TreeError(ValueError):
    pass


class NoPrime(TreeError):
    pass


class NoFraction(TreeError):
    pass


class NoText(TreeError):
    pass


class NoSpot(TreeError):
    pass


class NoTable(TreeError):
    pass


class TooMany(TreeError):
    pass


class NoLine(TreeError):
    pass


class NoRow(TreeError):
    pass


class NothingDone(TreeError):
    pass


class TooFar(TreeError):
    def __init__(self, far):
        TreeError.__init__(self, f"too far: {far}")
        self.far = far
