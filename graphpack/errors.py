"""The refusals: each stands under WebError, and under no other one of them."""


class WebError(ValueError):
    pass


class NoText(WebError):
    pass


class NoPlace(WebError):
    pass


class NoValue(WebError):
    pass


class TooMany(WebError):
    pass


class NoMake(WebError):
    pass


class NoBase(WebError):
    pass


class NoRow(WebError):
    pass


class NoName(WebError):
    pass


class NoWay(WebError):
    def __init__(self, at):
        WebError.__init__(self, f"the way can't be gone on at its place {at}")
        self.at = at


class NoPack(WebError):
    def __init__(self, at):
        WebError.__init__(self, f"no pack goes on so at byte {at}")
        self.at = at
