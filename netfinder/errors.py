"""The refusals of the program, each straight under NetError."""


class NetError(ValueError):
    pass


class NoText(NetError):
    pass


class NoChart(NetError):
    pass


class NoNet(NetError):
    pass


class TooGreat(NetError):
    pass


class OtherMoves(NetError):
    pass


class NoStretch(NetError):
    pass


class NoCase(NetError):
    pass


class NoRun(NetError):
    pass
