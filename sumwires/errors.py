"""The refusals, each of a class of its own under WireError."""

KEPT_DEPTH = 12


# What is refused may be of any kind, and may be changed by its owner later on.
# The depth is bounded because a list can hold itself.
def kept(thing, depth):
    if depth == 0:
        return thing
    if isinstance(thing, list):
        return [kept(part, depth - 1) for part in thing]
    if isinstance(thing, tuple):
        return tuple([kept(part, depth - 1) for part in thing])
    if isinstance(thing, dict):
        return dict([(key, kept(thing[key], depth - 1)) for key in thing])
    return thing


class WireError(ValueError):
    pass


class BadSizes(WireError):
    pass


class TooMany(WireError):
    pass


class BadMask(WireError):
    pass


class BadTable(WireError):
    pass


class BadRow(WireError):
    pass


# The words of the refusals below leave out the thing itself: it may be one
# that can't be shown, such as a number of too many figures.
class BadName(WireError):
    def __init__(self, name):
        WireError.__init__(self, "this is no name")
        self.name = kept(name, KEPT_DEPTH)


class Doubled(WireError):
    def __init__(self, name):
        WireError.__init__(self, "this name was there already")
        self.name = kept(name, KEPT_DEPTH)


class NoWire(WireError):
    def __init__(self, name):
        WireError.__init__(self, "no wire is called so")
        self.name = kept(name, KEPT_DEPTH)


class BadLine(WireError):
    def __init__(self, line):
        WireError.__init__(self, "this row has none of the forms")
        self.line = line


class Ring(WireError):
    def __init__(self, ring):
        WireError.__init__(self, "a ring of sums without a store between")
        self.ring = list(ring)
