"""What several of the tests need."""

from fractions import Fraction

from onethrow.orders import Order


def raised(kind, call, *arguments):
    """Return the attributes of the error that a call raises, which is of just this class."""
    try:
        call(*arguments)
    except kind as error:
        assert type(error) is kind
        return vars(error)
    raise AssertionError("no error")


def fraction(ratio):
    """Return a ratio as a fraction of Python's own."""
    return Fraction(ratio.top, ratio.bottom)


def orders_up_to(size):
    """Return all orders of up to so many names, a and what follows, once each."""
    found = []
    for count in range(1, size + 1):
        names = "abcdefgh"[:count]
        pairs = [(low, high) for low in names for high in names if low != high]
        for chosen in range(2 ** len(pairs)):
            told = [pair for at, pair in enumerate(pairs) if chosen >> at & 1]
            if is_closed(told):
                found.append(Order(names, told))
    return found


def is_closed(pairs):
    """Tell if some pairs are all the pairs of an order."""
    known = set(pairs)
    for low, middle in pairs:
        if (middle, low) in known or any((low, high) not in known for base, high in pairs if base == middle):
            return False
    return True
