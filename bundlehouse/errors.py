"""The refusals: one class each, with fields that tell what was refused."""


class BundleError(ValueError):
    pass


# The bases are given the fields and no words of their own, so that an error
# can be copied and sent on: Python makes the copy from what they were given.
class RefusedAt(BundleError):
    def __init__(self, part, row):
        BundleError.__init__(self, part, row)
        self.part = part
        self.row = row


class NoRow(BundleError):
    def __init__(self, number):
        BundleError.__init__(self, number)
        self.number = number


class Twice(RefusedAt):
    pass


class NoPart(RefusedAt):
    pass


class NoName(RefusedAt):
    pass


class NotGiven(RefusedAt):
    pass


class Endless(BundleError):
    def __init__(self, way):
        BundleError.__init__(self, way)
        self.way = way


class Asks(RefusedAt):
    pass


class TooMany(BundleError):
    def __init__(self, parts):
        BundleError.__init__(self, parts)
        self.parts = parts


class NoPlace(BundleError):
    pass


class NoMap(BundleError):
    pass
