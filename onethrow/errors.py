"""The errors of the program, all directly below ThrowError."""


def _shown(n):
    """Return the words for a number in a message."""
    # Python refuses to write integers of thousands of digits.
    if isinstance(n, int) and n.bit_length() > 1000:
        return "an integer of many digits"
    return str(n)


class ThrowError(ValueError):
    """What all errors of the program are."""


class BadNumber(ThrowError):
    """A number is not one of those that can stand here."""

    def __init__(self, n):
        ThrowError.__init__(self, f"bad number: {_shown(n)}")
        self.n = n


class BadText(ThrowError):
    """A text does not have the form that is read here."""

    def __init__(self, at):
        ThrowError.__init__(self, f"bad text at {_shown(at)}")
        self.at = at


class BadName(ThrowError):
    """A string is no name."""

    def __init__(self, name):
        ThrowError.__init__(self, f"bad name: {name!r}")
        self.name = name


class DuplicateName(ThrowError):
    """A name comes again where each comes once."""

    def __init__(self, name):
        ThrowError.__init__(self, f"name comes again: {name!r}")
        self.name = name


class UnknownName(ThrowError):
    """A name is not one of those that are told."""

    def __init__(self, name):
        ThrowError.__init__(self, f"unknown name: {name!r}")
        self.name = name


class Ring(ThrowError):
    """Different names would be below each other."""

    def __init__(self, names):
        self.names = list(names)
        ThrowError.__init__(self, f"below each other: {self.names}")


class BadShares(ThrowError):
    """Shares do not add up to what they should."""

    def __init__(self, total):
        ThrowError.__init__(self, f"bad sum of shares: {_shown(total)}")
        self.total = total


class UnlikeOrders(ThrowError):
    """Two orders are not equal."""

    def __init__(self, first, second):
        ThrowError.__init__(self, f"unlike orders: {first!s} and {second!s}")
        self.first = first
        self.second = second


class NotRising(ThrowError):
    """A machine is not rising: an up-set is likelier from low than from high."""

    def __init__(self, low, high, names):
        self.low = low
        self.high = high
        self.names = list(names)
        ThrowError.__init__(self, f"not rising from {low!r} to {high!r}: {self.names}")


class NoThrow(ThrowError):
    """A machine has no throw."""

    def __init__(self):
        ThrowError.__init__(self, "no throw")


class HasRing(ThrowError):
    """The picture of an order has a ring."""

    def __init__(self, names):
        self.names = list(names)
        ThrowError.__init__(self, f"has a ring: {self.names}")


class NoRing(ThrowError):
    """The picture of an order has no ring."""

    def __init__(self):
        ThrowError.__init__(self, "no ring")


class NothingToUndo(ThrowError):
    """There is nothing left that could be taken back."""

    def __init__(self):
        ThrowError.__init__(self, "nothing to undo")
