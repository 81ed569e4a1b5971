"""The refusals: each a class of its own, under RecastError alone."""


class RecastError(ValueError):
    pass


class NoText(RecastError):
    pass


class TooGreat(RecastError):
    pass


class NoPlace(RecastError):
    pass


class NoRule(RecastError):
    def __init__(self, why):
        RecastError.__init__(self, f"this is no rule: {why}")
        self.why = why


class NoFill(RecastError):
    pass


class NoScale(RecastError):
    pass


class NoFall(RecastError):
    def __init__(self, number):
        RecastError.__init__(self, f"rule {number} does not fall by the scale")
        self.number = number


class NoPlain(RecastError):
    def __init__(self, number):
        RecastError.__init__(self, f"rule {number} is not plain")
        self.number = number


class NoPair(RecastError):
    pass


class NoPaper(RecastError):
    def __init__(self, tried):
        RecastError.__init__(self, "the rule has no paper")
        self.tried = tried


class NoNumber(RecastError):
    pass
